import PyProof.Rows.All
import Wide.All
import OpenK.AllK
import Wide.FinOn
import PyProof.EqAt
import PyProof.EqKinds
import PyProof.TupleCall
import KE.BitLaws
import Open.SpecLaws
import KE.OsHead
import KE.OsGo
import KE.KRevIter
import Open.Pieces
import PyVbahal
import PySem.Challenge.RW_keptseats_s01_answers
set_option Elab.async false
set_option linter.all false
set_option maxRecDepth 100000
set_option maxHeartbeats 0
namespace L2
open PySem PySem.Spec PyProof.Rows
abbrev Key := Sum Int Str
def keyIs : Key → Value → Bool
  | .inl k, v => Value.isInt k v
  | .inr x, v => Value.isStrOf x v
def keyH (w : World) : Key → Int
  | .inl k => hashInt k
  | .inr x => hashStr w x
theorem keyIs_shape : ∀ {k : Key} {v : Value}, keyIs k v = true → (∃ i t, k = Sum.inl i ∧ v = Value.int i t) ∨ (∃ x t, k = Sum.inr x ∧ v = Value.str x t)
  | .inl i, v, h => by
    obtain ⟨t, e⟩ := Value.isInt_shape (k := i) (v := v) h
    exact .inl ⟨i, t, rfl, e⟩
  | .inr x, v, h => by
    obtain ⟨t, e⟩ := Value.isStrOf_shape (x := x) (v := v) h
    exact .inr ⟨x, t, rfl, e⟩
theorem key_ll (a b : Int) : decide ((Sum.inl a : Key) = Sum.inl b) = (a == b) := by
  by_cases e : a = b
  · subst e; simp
  · have h : ¬ (Sum.inl a : Key) = Sum.inl b := fun q => e (Sum.inl.inj q)
    rw [decide_eq_false h]
    exact (beq_eq_false_iff_ne.mpr e).symm
theorem key_rr (a b : Str) : decide ((Sum.inr a : Key) = Sum.inr b) = decide (a = b) := by
  by_cases e : a = b
  · subst e; simp
  · have h : ¬ (Sum.inr a : Key) = Sum.inr b := fun q => e (Sum.inr.inj q)
    rw [decide_eq_false h, decide_eq_false e]
theorem key_lr (a : Int) (b : Str) : decide ((Sum.inl a : Key) = Sum.inr b) = false := decide_eq_false (fun q => nomatch q)
theorem key_rl (a : Str) (b : Int) : decide ((Sum.inr a : Key) = Sum.inl b) = false := decide_eq_false (fun q => nomatch q)
def mixKind (prog : Program) (w : World) : PySem.KeyKind prog w Key where
  is := keyIs
  hash := keyH w
  inj := fun v a b ha hb => by
    rcases keyIs_shape ha with ⟨i, t, rfl, rfl⟩ | ⟨x, t, rfl, rfl⟩
    · rcases keyIs_shape hb with ⟨j, u, rfl, e⟩ | ⟨y, u, rfl, e⟩
      · injection e with e1 _; rw [e1]
      · exact nomatch e
    · rcases keyIs_shape hb with ⟨j, u, rfl, e⟩ | ⟨y, u, rfl, e⟩
      · exact nomatch e
      · injection e with e1 _; rw [e1]
  byValue := fun k v h => by
    rcases keyIs_shape h with ⟨i, t, rfl, rfl⟩ | ⟨x, t, rfl, rfl⟩ <;> rfl
  pyHash := fun hv h => by
    rcases keyIs_shape hv with ⟨i, t, rfl, rfl⟩ | ⟨x, t, rfl, rfl⟩
    · exact wpAny_pyHash_int h
    · exact wpAny_pyHash_str h
  eqBool := fun hu hv h => by
    rcases keyIs_shape hu with ⟨i, t, rfl, rfl⟩ | ⟨x, t, rfl, rfl⟩
    · rcases keyIs_shape hv with ⟨j, u, rfl, rfl⟩ | ⟨y, u, rfl, rfl⟩
      · rw [key_ll] at h; exact wpAny_eqBool_int h
      · rw [key_lr] at h; exact SeqAt.EqAt.int_str i t y u _ _ _ _ h
    · rcases keyIs_shape hv with ⟨j, u, rfl, rfl⟩ | ⟨y, u, rfl, rfl⟩
      · rw [key_rl] at h; exact SeqAt.EqAt.str_int x t j u _ _ _ _ h
      · rw [key_rr] at h; exact wpAny_eqBool_str h
  «strs» := fun k x t v h => by
    rcases keyIs_shape h with ⟨i, u, rfl, e⟩ | ⟨y, u, rfl, e⟩
    · exact nomatch e
    · injection e with e1 _
      subst e1
      cases v <;> rfl
end L2
namespace L2
open PySem PySem.Spec PyProof.Rows
inductive V where
  | non | bl (b : Bool) | int (i : Int) | str (x : Str) | byt (b : Array UInt8) | flt (b : UInt64) | ref (a : Addr) | ty (n : String)
  deriving DecidableEq
def RelV : V → Value → Prop
  | .non, u => u = Value.none
  | .bl b, u => u = Value.bool b
  | .int i, u => ∃ t, u = Value.int i t
  | .str x, u => ∃ t, u = Value.str x t
  | .byt b, u => ∃ t, u = Value.bytes b t
  | .flt b, u => ∃ t, u = Value.float b t
  | .ref a, u => u = Value.ref a
  | .ty n, u => u = Value.type n
abbrev Vals : List V → List Value → Prop := Paired RelV
theorem Vals.length {xs : List V} {us : List Value} (r : Vals xs us) : xs.length = us.length := Paired.length r
theorem Vals.get : ∀ {xs : List V} {us : List Value} {i : Nat} {x : V}, Vals xs us → xs[i]? = some x → ∃ u, us[i]? = some u ∧ RelV x u
  | _, _, _, _, .nil, e => by simp at e
  | _, _, 0, _, .cons r _, e => by simp at e; subst e; exact ⟨_, rfl, r⟩
  | _, _, i + 1, x, .cons _ t, e => by
    obtain ⟨u, h1, h2⟩ := Vals.get (i := i) (x := x) t (by simpa using e)
    exact ⟨u, by simpa using h1, h2⟩
theorem Vals.set {x : V} {u : Value} (r : RelV x u) : ∀ {xs : List V} {us : List Value} (i : Nat), Vals xs us → Vals (xs.set i x) (us.set i u)
  | _, _, _, .nil => .nil
  | _, _, 0, .cons _ t => .cons r t
  | _, _, i + 1, .cons q t => .cons q (Vals.set r i t)
theorem Vals.append : ∀ {xs ys : List V} {us ws : List Value}, Vals xs us → Vals ys ws → Vals (xs ++ ys) (us ++ ws)
  | _, _, _, _, .nil, s => s
  | _, _, _, _, .cons r t, s => .cons r (Vals.append t s)
theorem Vals.take : ∀ {xs : List V} {us : List Value} (n : Nat), Vals xs us → Vals (xs.take n) (us.take n)
  | _, _, 0, _ => .nil
  | _, _, _ + 1, .nil => .nil
  | _, _, n + 1, .cons r t => .cons r (Vals.take n t)
theorem Vals.drop : ∀ {xs : List V} {us : List Value} (n : Nat), Vals xs us → Vals (xs.drop n) (us.drop n)
  | _, _, 0, r => r
  | _, _, _ + 1, .nil => .nil
  | _, _, n + 1, .cons _ t => Vals.drop n t
def RelO : Option V → Option Value → Prop
  | some v, some u => RelV v u
  | none, none => True
  | _, _ => False
def KV {κ : Type} : List (κ × V) → List (κ × Value) → Prop := Paired fun (p : κ × V) (q : κ × Value) => p.1 = q.1 ∧ RelV p.2 q.2
def kV : Key → V
  | .inl i => .int i
  | .inr x => .str x
inductive HO where
  /-- a list -/
  | lst (xs : List V)
  /-- a tuple (never changes) -/
  | tup (xs : List V)
  /-- a dict whose keys are ints and texts; one whose keys are tuples of ints and texts (the empty one is both) -/
  | dK (kvs : List (Key × V)) | dT (kvs : List (List Key × V))
  /-- a set of ints: its members, its size -/
  | set (S : Int → Bool) (n : Nat)
  /-- an instance of the class at C, its dict at dx, its attributes -/
  | ins (C dx : Addr) (fs : List (Str × V))
  /-- the dict of the instance at x -/
  | own (x : Addr)
  /-- the dict of an exception -/
  | xd (fs : List (Str × V))
  /-- a bound method, f of x -/
  | met (f x : Addr)
  /-- a range object lo, lo + 1, .. below hi -/
  | rng (lo hi : Int)
  /-- a thing that is known to the object (the script; a dict while a loop walks it): read, never written while it is so -/
  | frz (o : Obj) (u : HO)
  /-- a code object's table -/
  | tbl (ps : Array Value)
  /-- any other thing, by what is true of its one object (a def of one's own: SetO a S n := HO.ext fun h => ..) -/
  | ext (φ : Heap → Prop)
abbrev Hp := Addr → Option HO
def upd (H : Hp) (a : Addr) (o : HO) : Hp := fun b => if b = a then some o else H b
theorem upd_same {H : Hp} {a : Addr} {o : HO} : upd H a o a = some o := by unfold upd; rw [if_pos rfl]
theorem upd_ne {H : Hp} {a b : Addr} {o : HO} (h : b ≠ a) : upd H a o b = H b := by unfold upd; rw [if_neg h]
theorem ne_of {H : Hp} {a b : Addr} {o u : HO} (h : H a = some o) (h' : H b = some u) (d : o ≠ u) : a ≠ b := by
  intro e; subst e; rw [h] at h'; exact d (Option.some.inj h')
theorem ne_of_none {H : Hp} {a b : Addr} {o : HO} (h : H a = some o) (h' : H b = none) : a ≠ b := by
  intro e; subst e; rw [h] at h'; cases h'
section
variable (P : Program) (w : World)
def ObjOk (H : Hp) (h : Heap) (a : Addr) : HO → Prop
  | .lst xs => xs.length ≤ sizeLine ∧ ∃ (its : List Value) (n : Nat), Vals xs its ∧ h.get? a = some { cls := .type "list", data := .seq its.toArray n }
  | .tup xs => xs.length ≤ sizeLine ∧ ∃ its : List Value, Vals xs its ∧ IsTup h a its.toArray
  | .dK kvs => kvs.length ≤ sizeLine ∧ (a == sysModules) = false ∧ ∃ vs, KV kvs vs ∧ h.DictOf (mixKind P w) a vs
  | .dT kvs => kvs.length ≤ sizeLine ∧ (a == sysModules) = false ∧ ∃ xs : List (List Key × Addr × Value),
      Paired (fun (p : List Key × V) (q : List Key × Addr × Value) => p.1 = q.1 ∧ H q.2.1 = some (.tup (p.1.map kV)) ∧ RelV p.2 q.2.2) kvs xs ∧
      ∃ o es ep, h.get? a = some o ∧ o.ExactDict ∧ o.data = .dict es ep ∧ es.toList = xs.map (entryOfKey (tupleKind (mixKind P w))) ∧ (xs.map (·.1)).Nodup
  | .set S n => h.SetOf (intKind P w) a S n
  | .ins C dx fs => H dx = some (.own a) ∧ fs.length ≤ 1000 ∧ dx ≠ a ∧ h.get? a = some (PySem.W.instObj C dx) ∧
      ∃ mA, h.Ns1 dx mA ∧ (∀ f, RelO (fs.lookup f) (mA f)) ∧ PySem.Within mA (fs.map (·.1))
  | .own _ => ∃ o, h.get? a = some o
  | .xd fs => ∃ mA, h.Ns1 a mA ∧ ∀ f, RelO (fs.lookup f) (mA f)
  | .rng lo hi => ∃ t u v, h.get? a = some { cls := .type "range", data := .fields #[.int lo t, .int hi u, .int 1 v] }
  | .frz o u => h.get? a = some o ∧ ObjOk H h a u
  | .tbl ps => h.get? a = some { cls := .none, data := .fields ps }
  | .met f x => h.get? a = some (PySem.W.methodObj (.ref f) (.ref x))
  | .ext φ => φ h ∧ (∃ o, h.get? a = some o) ∧ ∀ h1 h2 : Heap, φ h1 → (∀ o, h1.get? a = some o → h2.get? a = some o) → φ h2
def HOk (H : Hp) (h : Heap) : Prop := ∀ a o, H a = some o → ObjOk P w H h a o
end
section
variable {P : Program} {w : World} {H H' : Hp} {h h' : Heap} {a : Addr} {o : HO}
theorem ObjOk.lt (x : ObjOk P w H h a o) : a < h.objs.size := by
  cases o with
  | lst xs => obtain ⟨_, _, _, _, e⟩ := x; exact Heap.lt_size e
  | tup xs => obtain ⟨_, _, _, p⟩ := x; exact p.lt
  | dK kvs => obtain ⟨_, _, _, _, o, _, _, e, _⟩ := x; exact Heap.lt_size e
  | dT kvs => obtain ⟨_, _, _, _, o, _, _, e, _⟩ := x; exact Heap.lt_size e
  | set S n => obtain ⟨o, _, _, _, e, _⟩ := x; exact Heap.lt_size e
  | ins C dx fs => obtain ⟨_, _, _, e, _⟩ := x; exact Heap.lt_size e
  | own y => obtain ⟨_, e⟩ := x; exact Heap.lt_size e
  | xd fs => obtain ⟨_, ⟨_, _, _, e, _⟩, _⟩ := x; exact Heap.lt_size e
  | rng lo hi => obtain ⟨_, _, _, e⟩ := x; exact Heap.lt_size e
  | frz ob u => obtain ⟨e, _⟩ := x; exact Heap.lt_size e
  | tbl ps => exact Heap.lt_size (show h.get? a = some _ from x)
  | met f y => exact Heap.lt_size (show h.get? a = some _ from x)
  | ext φ => obtain ⟨_, ⟨_, e⟩, _⟩ := x; exact Heap.lt_size e
theorem Paired.mapP {α β : Type} {F G : α → β → Prop} : ∀ {l₁ : List α} {l₂ : List β}, Paired F l₁ l₂ → (∀ a b, F a b → G a b) → Paired G l₁ l₂
  | _, _, .nil, _ => .nil
  | _, _, .cons r t, f => .cons (f _ _ r) (Paired.mapP t f)
theorem ObjOk.stay (x : ObjOk P w H h a o) (k : ∀ b u, (b = a ∨ H b = some (.own a)) → h.get? b = some u → h'.get? b = some u)
    (ho : ∀ b, H b = some (.own a) → H' b = some (.own a)) (ht : ∀ b xs, H b = some (.tup xs) → H' b = some (.tup xs)) : ObjOk P w H' h' a o := by
  induction o with
  | lst xs => obtain ⟨z, its, n, r, e⟩ := x; exact ⟨z, its, n, r, k _ _ (.inl rfl) e⟩
  | tup xs => obtain ⟨z, its, r, ob, e, c⟩ := x; exact ⟨z, its, r, ob, k _ _ (.inl rfl) e, c⟩
  | dK kvs => obtain ⟨z, y, vs, r, ob, es, ep, e, c⟩ := x; exact ⟨z, y, vs, r, ob, es, ep, k _ _ (.inl rfl) e, c⟩
  | dT kvs =>
    obtain ⟨z, y, xs, r, ob, es, ep, e, c⟩ := x
    exact ⟨z, y, xs, Paired.mapP r fun p q z => ⟨z.1, ht _ _ z.2.1, z.2.2⟩, ob, es, ep, k _ _ (.inl rfl) e, c⟩
  | set S n => obtain ⟨ob, es, ep, t, e, c⟩ := x; exact ⟨ob, es, ep, t, k _ _ (.inl rfl) e, c⟩
  | ins C dx fs =>
    obtain ⟨d, z, ne, e, mA, ⟨od, es, ep, e2, c⟩, r⟩ := x
    exact ⟨ho _ d, z, ne, k _ _ (.inl rfl) e, mA, ⟨od, es, ep, k _ _ (.inr d) e2, c⟩, r⟩
  | own y => obtain ⟨ob, e⟩ := x; exact ⟨ob, k _ _ (.inl rfl) e⟩
  | xd fs => obtain ⟨mA, ⟨od, es, ep, e, c⟩, r⟩ := x; exact ⟨mA, ⟨od, es, ep, k _ _ (.inl rfl) e, c⟩, r⟩
  | rng lo hi => obtain ⟨t, u, v, e⟩ := x; exact ⟨t, u, v, k _ _ (.inl rfl) e⟩
  | frz ob u ih => obtain ⟨e, q⟩ := x; exact ⟨k _ _ (.inl rfl) e, ih q⟩
  | tbl ps =>
    have e : h.get? a = some { cls := .none, data := .fields ps } := x
    show h'.get? a = some { cls := .none, data := .fields ps }
    exact k a _ (.inl rfl) e
  | met f y =>
    have e : h.get? a = some (PySem.W.methodObj (.ref f) (.ref y)) := x
    show h'.get? a = some (PySem.W.methodObj (.ref f) (.ref y))
    exact k a _ (.inl rfl) e
  | ext φ => obtain ⟨p, ⟨o, e⟩, st⟩ := x; exact ⟨st _ _ p fun o q => k _ _ (.inl rfl) q, ⟨o, k _ _ (.inl rfl) e⟩, st⟩
theorem HOk.lt (x : HOk P w H h) (e : H a = some o) : a < h.objs.size := (x a o e).lt
theorem HOk.fresh (x : HOk P w H h) (e : h.objs.size ≤ a) : H a = none := by
  cases q : H a with
  | none => rfl
  | some u => exact absurd (Nat.lt_of_lt_of_le (x.lt q) e) (Nat.lt_irrefl _)
theorem HOk.kept (x : HOk P w H h) (k : ∀ b u, h.get? b = some u → h'.get? b = some u) : HOk P w H h' := fun a o e =>
  (x a o e).stay (fun b u _ q => k b u q) (fun _ q => q) fun _ _ q => q
theorem HOk.laid (x : HOk P w H h) (k : ∀ b u, h.get? b = some u → h'.get? b = some u) (hp : h.objs.size ≤ a) (new : ObjOk P w (upd H a o) h' a o) : HOk P w (upd H a o) h' := fun b u e => by
  have hn := x.fresh hp
  by_cases hb : b = a
  · subst hb; rw [upd_same] at e; cases e; exact new
  · rw [upd_ne hb] at e
    exact (x b u e).stay (fun c v _ q => k c v q) (fun c q => by rw [upd_ne (ne_of_none q hn)]; exact q) fun c xs q => by rw [upd_ne (ne_of_none q hn)]; exact q
end
def Rd (H : Hp) (a : Addr) (u : HO) : Prop := H a = some u ∨ ∃ o, H a = some (.frz o u)
theorem Rd.ok {P : Program} {w : World} {H : Hp} {h : Heap} {a : Addr} {u : HO} (r : Rd H a u) (x : HOk P w H h) : ObjOk P w H h a u := by
  rcases r with r | ⟨o, r⟩
  · exact x a u r
  · obtain ⟨_, q⟩ := x a _ r
    exact q
def Mut : Option HO → Prop
  | some (.lst _) => True
  | some (.dK _) => True
  | some (.dT _) => True
  | some (.set _ _) => True
  | some (.ins _ _ _) => True
  | some (.ext _) => True
  | _ => False
section
variable {P : Program} {w : World} {H : Hp} {h h' : Heap} {x e : Addr} {o' : HO}
theorem HOk.write (ok : HOk P w H h) (mu : Mut (H x)) (he : e = x ∨ H e = some (.own x)) (k : ∀ b u, b ≠ e → h.get? b = some u → h'.get? b = some u) (heo : ∃ u, h'.get? e = some u)
    (new : ObjOk P w (upd H x o') h' x o') : HOk P w (upd H x o') h' := fun b u q => by
  have nown : ∀ c y, H c = some (.own y) → c ≠ x := fun c y r z => by subst z; rw [r] at mu; exact mu
  have ntup : ∀ c xs, H c = some (.tup xs) → c ≠ x := fun c xs r z => by subst z; rw [r] at mu; exact mu
  by_cases hb : b = x
  · subst hb; rw [upd_same] at q; cases q; exact new
  · rw [upd_ne hb] at q
    by_cases hbe : b = e
    · have q' : H b = some (.own x) := by
        rcases he with z | z
        · exact absurd (hbe.trans z) hb
        · rw [hbe]; exact z
      rw [q] at q'; cases q'
      obtain ⟨v, hv⟩ := heo
      exact ⟨v, by rw [hbe]; exact hv⟩
    · refine (ok b u q).stay (fun c v hc r => k c v ?_ r) (fun c r => by rw [upd_ne (nown c b r)]; exact r) fun c xs r => by rw [upd_ne (ntup c xs r)]; exact r
      rcases hc with rfl | hc
      · exact hbe
      · rintro rfl
        rcases he with z | z
        · exact nown c b hc z
        · rw [hc] at z; cases z; exact hb rfl
end
structure Un (fs ex : List Addr) (H H' : Hp) (h h' : Heap) : Prop where
  keep : ∀ b o, h.get? b = some o → H b = none → b ∉ fs → b ∉ ex → h'.get? b = some o
  slot : ∀ b o, h.get? b = some o → H b = none → b ∈ fs → b ∉ ex → ∃ sl, h'.get? b = some { o with slots := sl }
  free : ∀ b o, h.get? b = some o → H b = none → b ∉ ex → H' b = none
  there : ∀ b o, h.get? b = some o → b ∉ ex → ∃ o', h'.get? b = some o'
  tups : ∀ b xs, H b = some (.tup xs) → H' b = some (.tup xs)
  frzs : ∀ b o u, H b = some (.frz o u) → H' b = some (.frz o u)
  tbls : ∀ b ps, H b = some (.tbl ps) → ∃ more, H' b = some (.tbl (ps ++ more))
section
variable {fs fs' ex ex' : List Addr} {H H1 H2 : Hp} {h h1 h2 h' : Heap} {a x e : Addr} {o : HO}
theorem Un.any (u : Un fs ex H H1 h h1) {b : Addr} {ob : Obj} (q : h.get? b = some ob) (n : H b = none) (hx : b ∉ ex) : ∃ sl, h1.get? b = some { ob with slots := sl } := by
  by_cases hb : b ∈ fs
  · exact u.slot b ob q n hb hx
  · exact ⟨ob.slots, u.keep b ob q n hb hx⟩
theorem Un.kept (k : ∀ b u, h.get? b = some u → h'.get? b = some u) : Un fs ex H H h h' :=
  ⟨fun b ob q _ _ _ => k b ob q, fun b ob q _ _ _ => ⟨ob.slots, k b ob q⟩, fun _ _ _ n _ => n, fun b ob q _ => ⟨ob, k b ob q⟩, fun _ _ q => q, fun _ _ _ q => q, fun _ ps q => ⟨#[], by rw [q]; simp⟩⟩
theorem Un.refl : Un fs ex H H h h := Un.kept fun _ _ q => q
theorem Un.laid (k : ∀ b u, h.get? b = some u → h'.get? b = some u) (hp : h.objs.size ≤ a) (hn : H a = none) : Un fs ex H (upd H a o) h h' where
  keep := fun b u q _ _ _ => k b u q
  slot := fun b u q _ _ _ => ⟨u.slots, k b u q⟩
  free := fun b u q n _ => by rw [upd_ne (Nat.ne_of_lt (Nat.lt_of_lt_of_le (Heap.lt_size q) hp))]; exact n
  there := fun b u q _ => ⟨u, k b u q⟩
  tups := fun b xs q => by rw [upd_ne (ne_of_none q hn)]; exact q
  frzs := fun b u xs q => by rw [upd_ne (ne_of_none q hn)]; exact q
  tbls := fun b ps q => ⟨#[], by rw [upd_ne (ne_of_none q hn), q]; simp⟩
theorem Un.write (mu : Mut (H x)) (he : e = x ∨ H e = some (.own x)) (k : ∀ b u, b ≠ e → h.get? b = some u → h'.get? b = some u) (heo : ∃ u, h'.get? e = some u) : Un fs ex H (upd H x o) h h' := by
  have hx : ∀ b, H b = none → b ≠ x := fun b n z => by subst z; rw [n] at mu; exact mu
  have hb : ∀ b, H b = none → b ≠ e := fun b n z => by
    subst z
    rcases he with r | r
    · exact hx b n r
    · rw [n] at r; cases r
  have hm : ∀ b u, H b = some u → ¬ Mut (some u) → b ≠ x := fun b u q nm z => by subst z; rw [q] at mu; exact nm mu
  refine ⟨fun b u q n _ _ => k b u (hb b n) q, fun b u q n _ _ => ⟨u.slots, k b u (hb b n) q⟩, fun b u q n _ => by rw [upd_ne (hx b n)]; exact n, fun b u q _ => ?_,
    fun b xs q => by rw [upd_ne (hm b _ q fun z => z)]; exact q, fun b u xs q => by rw [upd_ne (hm b _ q fun z => z)]; exact q, fun b ps q => ⟨#[], by rw [upd_ne (hm b _ q fun z => z), q]; simp⟩⟩
  by_cases hbe : b = e
  · subst hbe; exact heo
  · exact ⟨u, k b u hbe q⟩
end
def trk (h : Heap) (H : Hp) : List Addr := (List.range h.objs.size).filter fun a => (H a).isSome
def hidT (h : Heap) (H : Hp) : Heap := PySem.W.hideAll h (trk h H)
theorem hidT_size (h : Heap) (H : Hp) : (hidT h H).objs.size = h.objs.size := PySem.W.hideAll_size _ _
theorem hidT_get {h : Heap} {H : Hp} {b : Addr} {o : Obj} (e : h.get? b = some o) (n : H b = none) : (hidT h H).get? b = some o :=
  PySem.W.hideAll_get _ e fun hm => by
    have q : (H b).isSome = true := (List.mem_filter.mp hm).2
    rw [n] at q; simp at q
theorem of_hidT {h : Heap} {H : Hp} {b : Addr} {o : Obj} (e : (hidT h H).get? b = some o) : h.get? b = some o ∧ H b = none := by
  have e' : h.get? b = some o := PySem.W.of_hideAll (trk h H) e
  refine ⟨e', ?_⟩
  cases q : H b with
  | none => rfl
  | some x =>
    have hm : b ∈ trk h H := List.mem_filter.mpr ⟨List.mem_range.mpr (Heap.lt_size e'), by simp [q]⟩
    have z : (hidT h H).get? b = none := PySem.W.hideAll_none (trk h H) hm
    rw [z] at e; cases e
end L2
namespace L2
open PySem PySem.Spec PyProof.Rows
structure Mod (K : PySem.W.Frag) (mg : Str → Option Value) (base : Heap) : Prop where
  kin : K.In base
  glob : base.Ns mainGlobals mg
  blt : ∃ mb, base.Ns builtinsNs mb ∧ ∀ x : Str, x ≠ "__name__" → mb x = bootBuiltins x
  nolimit : base.NoLimit
structure Cx where
  prog : Program
  w : World
  K : PySem.W.Frag
  mg : Str → Option Value
  base : Heap
  A : Around
  N : List Str
  s_0 : Shared
  H_0 : Hp
  env : Env
  outer : List Env
  stack : List Env
  ex : List Addr
  fn : Str → Bool
  calm : Bool
  pn : List (Addr × Obj)
  xe : Value → Shared → Prop
def frs (l : List Env) : List Addr := l.filterMap (·.frame)
abbrev Cx.fs (X : Cx) : List Addr := frs X.outer
def Vis (sc : Scope) (x : Str) : Prop := sc.names.lookup x = some .local ∨ sc.names.lookup x = some .cell ∨ sc.names.lookup x = some .free
def Loc (sc : Scope) (x : Str) : Prop := sc.names.lookup x = some .local ∨ sc.names.lookup x = some .cell
def Look (env : Env) (h : Heap) (m : Str → Option Value) (x : Str) (u : Value) : Prop :=
  (env.kindOf x = some .local ∧ m x = some u) ∨ ((env.kindOf x = some .cell ∨ env.kindOf x = some .free) ∧ ∃ c, env.cells.lookup x = some c ∧ h.IsCell c (some u))
structure Cx.Ok (X : Cx) : Prop where
  mod : Mod X.K X.mg X.base
  kind : X.env.scope.kind = .function
  glob : X.env.globals = mainGlobals
  blt : X.env.builtins = builtinsNs
  above : X.s_0.heap.objs.size ≤ X.env.locals
  inj : ∀ x y c, X.env.cells.lookup x = some c → X.env.cells.lookup y = some c → x = y
  has : ∀ x, (X.env.kindOf x = some .cell ∨ X.env.kindOf x = some .free) → ∃ c, X.env.cells.lookup x = some c
  cab : ∀ x c, X.fn x = true → X.env.cells.lookup x = some c → X.s_0.heap.objs.size ≤ c
  hd : X.calm = true → X.A.handled = none
  frames : X.A.frames = some X.stack
  stk : X.stack = X.outer ∨ (X.stack = X.env :: X.outer ∧ X.env.frame = some X.env.locals)
  exf : ∀ b ∈ X.ex, b ≠ X.env.locals ∧ ∀ x c, X.env.cells.lookup x = some c → c ≠ b
  bs : ∀ b o, X.base.get? b = some o → X.s_0.heap.get? b = some o ∧ X.H_0 b = none
  bsz : X.base.objs.size ≤ X.s_0.heap.objs.size
  noex : ∀ b o, X.base.get? b = some o → b ∉ X.ex
  exfs : ∀ b ∈ X.ex, b ∉ X.fs
  funs : X.s_0.heap.FunFrames X.base X.outer
  frf : ∀ b ∈ X.fs, X.H_0 b = none
structure Inv (X : Cx) (pins : List (Addr × Obj)) (σ : List (Option V)) (H : Hp) (s : Shared) : Prop where
  ok : X.Ok
  os : s.os = X.s_0.os
  bare : AllBare s.gens
  base : Un X.fs X.ex X.H_0 H X.s_0.heap s.heap
  loc : ∃ m, s.heap.Ns X.env.locals m ∧ ∀ (i : Nat) (x : Str) (v : V), X.N[i]? = some x → σ[i]? = some (some v) → Vis X.env.scope x → ∃ u, RelV v u ∧ Look X.env s.heap m x u
  cell : ∀ x c, X.env.cells.lookup x = some c → ∃ v, s.heap.IsCell c v
  free : H X.env.locals = none
  freeC : ∀ x c, X.env.cells.lookup x = some c → H c = none
  pin : ∀ p ∈ X.pn ++ pins, s.heap.get? p.1 = some p.2 ∧ H p.1 = none ∧ p.1 ≠ X.env.locals ∧ p.1 ∉ X.fs ∧ ∀ v, p.2.data ≠ .cell v
  hok : HOk X.prog X.w H s.heap
  len : σ.length = X.N.length
section
variable {X : Cx} {pins : List (Addr × Obj)} {σ : List (Option V)} {H H' : Hp} {s : Shared} {h' : Heap}
theorem Cx.Ok.nofr (ok : X.Ok) {b : Addr} {o : Obj} (e : X.base.get? b = some o) : b ∉ X.fs := fun hb => by
  have := (ok.funs.mem hb).1
  rw [e] at this; cases this
theorem Inv.bs (I : Inv X pins σ H s) : ∀ b o, X.base.get? b = some o → s.heap.get? b = some o ∧ H b = none := fun b o e =>
  ⟨I.base.keep b o (I.ok.bs b o e).1 (I.ok.bs b o e).2 (I.ok.nofr e) (I.ok.noex b o e), I.base.free b o (I.ok.bs b o e).1 (I.ok.bs b o e).2 (I.ok.noex b o e)⟩
theorem Inv.bk (I : Inv X pins σ H s) : ∀ b o, X.base.get? b = some o → s.heap.get? b = some o := fun b o e => (I.bs b o e).1
theorem Inv.mod (I : Inv X pins σ H s) : Mod X.K X.mg X.base := I.ok.mod
theorem Inv.kIn (I : Inv X pins σ H s) : X.K.In s.heap := I.ok.mod.kin.keeps I.bk
theorem Inv.lt (I : Inv X pins σ H s) : X.env.locals < s.heap.objs.size := let ⟨_, hn, _⟩ := I.loc; hn.lt
theorem Inv.sz (I : Inv X pins σ H s) : X.s_0.heap.objs.size ≤ s.heap.objs.size := Nat.le_trans I.ok.above (Nat.le_of_lt I.lt)
theorem Inv.nofs (I : Inv X pins σ H s) {a : Addr} (h : s.heap.objs.size ≤ a) : a ∉ X.fs := fun hb => by
  obtain ⟨_, o, ho, _⟩ := I.ok.funs.mem hb
  exact absurd (Nat.lt_of_lt_of_le (Heap.lt_size ho) (Nat.le_trans I.sz h)) (Nat.lt_irrefl _)
theorem Inv.cne (I : Inv X pins σ H s) : ∀ x c, X.env.cells.lookup x = some c → c ≠ X.env.locals := fun x c e z => by
  obtain ⟨v, o, ho, hd⟩ := I.cell x c e
  obtain ⟨m, ⟨o', es, ep, ho', hd', _⟩, _⟩ := I.loc
  rw [z, ho'] at ho; cases ho; rw [hd'] at hd; cases hd
theorem Inv.funs (I : Inv X pins σ H s) : s.heap.FunFrames X.base X.outer := by
  have all : ∀ (l : List Env), (∀ b ∈ frs l, b ∈ X.fs) → X.s_0.heap.FunFrames X.base l → s.heap.FunFrames X.base l := by
    intro l
    induction l with
    | nil => intro _ _; trivial
    | cons env r ih =>
      intro hs hl
      obtain ⟨hk, ⟨L, o, hf, hn, ho, hd⟩, hr⟩ := hl
      have hL : L ∈ X.fs := hs L (by unfold frs; rw [List.filterMap_cons, hf]; exact List.mem_cons_self)
      obtain ⟨sl, e⟩ := I.base.slot L o ho (I.ok.frf L hL) hL fun z => I.ok.exfs L z hL
      exact ⟨hk, ⟨L, _, hf, hn, e, hd⟩, ih (fun b hb => hs b (by unfold frs; rw [List.filterMap_cons, hf]; exact List.mem_cons_of_mem _ hb)) hr⟩
  exact all X.outer (fun _ hb => hb) I.ok.funs
theorem Inv.stack (I : Inv X pins σ H s) : s.heap.FunFrames X.base X.stack := by
  rcases I.ok.stk with e | ⟨e, hf⟩
  · rw [e]; exact I.funs
  · rw [e]
    obtain ⟨m, hn, _⟩ := I.loc
    refine .cons (by rw [I.ok.kind]; decide) hf hn ?_ I.funs
    exact Heap.get?_none_of_le (Nat.le_trans I.ok.bsz I.ok.above)
theorem Inv.stkSub (I : Inv X pins σ H s) : ∀ b ∈ frs X.stack, b ∈ X.env.locals :: X.fs := fun b hb => by
  rcases I.ok.stk with e | ⟨e, hf⟩
  · rw [e] at hb; exact List.mem_cons_of_mem _ hb
  · rw [e] at hb
    unfold frs at hb
    rw [List.filterMap_cons, hf] at hb
    exact hb
theorem Inv.stkFree (I : Inv X pins σ H s) : ∀ b ∈ frs X.stack, H b = none := fun b hb => by
  rcases List.mem_cons.mp (I.stkSub b hb) with e | hb
  · rw [e]; exact I.free
  · obtain ⟨_, o, ho, _⟩ := I.ok.funs.mem hb
    exact I.base.free b o ho (I.ok.frf b hb) fun z => I.ok.exfs b z hb
theorem Inv.step {g' : Array GenState} {t' : Nat} {d' : Drawn} {ch : List Addr} (I : Inv X pins σ H s)
    (hch : ∀ b ∈ ch, (b ∈ X.ex ∨ X.s_0.heap.objs.size ≤ b) ∧ b ≠ X.env.locals ∧ (∀ x c, X.env.cells.lookup x = some c → c ≠ b) ∧ ∀ p ∈ X.pn ++ pins, p.1 ≠ b)
    (keep : ∀ b o, b ≠ X.env.locals → b ∉ X.fs → b ∉ ch → s.heap.get? b = some o → H b = none → h'.get? b = some o)
    (slot : ∀ b o, b ≠ X.env.locals → b ∈ X.fs → b ∉ ch → s.heap.get? b = some o → H b = none → ∃ sl, h'.get? b = some { o with slots := sl }) (free : ∀ b o, b ∉ ch → s.heap.get? b = some o → H b = none → H' b = none)
    (there : ∀ b o, b ∉ ch → s.heap.get? b = some o → ∃ o', h'.get? b = some o')
    (tups : ∀ b xs, H b = some (.tup xs) → H' b = some (.tup xs)) (frzs : ∀ b o u, H b = some (.frz o u) → H' b = some (.frz o u)) (tbls : ∀ b ps, H b = some (.tbl ps) → ∃ more, H' b = some (.tbl (ps ++ more)))
    (ns : ∀ m, s.heap.Ns X.env.locals m → h'.Ns X.env.locals m) (hok : HOk X.prog X.w H' h') (hg : AllBare g') :
    Inv X pins σ H' { s with heap := h', gens := g', drawn := d', toks := t' } := by
  have neL : ∀ b o, X.s_0.heap.get? b = some o → b ≠ X.env.locals := fun b o e => Nat.ne_of_lt (Nat.lt_of_lt_of_le (Heap.lt_size e) I.ok.above)
  have neC : ∀ b o, X.s_0.heap.get? b = some o → b ∉ X.ex → b ∉ ch := fun b o e hx hb => by
    rcases (hch b hb).1 with z | z
    · exact hx z
    · exact absurd (Nat.lt_of_lt_of_le (Heap.lt_size e) z) (Nat.lt_irrefl _)
  have cellK : ∀ x c, X.env.cells.lookup x = some c → ∀ v, s.heap.IsCell c v → h'.IsCell c v := fun x c e v ⟨o, ho, hd⟩ => by
    have nch : c ∉ ch := fun z => (hch c z).2.2.1 x c e rfl
    by_cases hc : c ∈ X.fs
    · obtain ⟨sl, q⟩ := slot c o (I.cne x c e) hc nch ho (I.freeC x c e)
      exact ⟨_, q, hd⟩
    · exact ⟨o, keep c o (I.cne x c e) hc nch ho (I.freeC x c e), hd⟩
  refine ⟨I.ok, I.os, hg, ⟨fun b o e n hb hx => ?_, fun b o e n hb hx => ?_, fun b o e n hx => ?_, fun b o e hx => ?_, fun b xs e => tups b xs (I.base.tups b xs e), fun b o xs e => frzs b o xs (I.base.frzs b o xs e), fun b ps e => ?_⟩, ?_, fun x c e => ?_, ?_, fun x c e => ?_, fun p hp => ?_, hok, I.len⟩
  · exact keep b o (neL b o e) hb (neC b o e hx) (I.base.keep b o e n hb hx) (I.base.free b o e n hx)
  · obtain ⟨sl, e1⟩ := I.base.slot b o e n hb hx
    obtain ⟨sl', e2⟩ := slot b _ (neL b o e) hb (neC b o e hx) e1 (I.base.free b o e n hx)
    exact ⟨sl', e2⟩
  · obtain ⟨o', e1⟩ := I.base.there b o e hx
    exact free b o' (neC b o e hx) e1 (I.base.free b o e n hx)
  · obtain ⟨o', e1⟩ := I.base.there b o e hx
    exact there b o' (neC b o e hx) e1
  · obtain ⟨m1, e1⟩ := I.base.tbls b ps e
    obtain ⟨m2, e2⟩ := tbls b _ e1
    exact ⟨m1 ++ m2, by rw [e2, Array.append_assoc]⟩
  · obtain ⟨m, hn, hl⟩ := I.loc
    refine ⟨m, ns m hn, fun i x v e1 e2 e3 => ?_⟩
    obtain ⟨u, r, l⟩ := hl i x v e1 e2 e3
    refine ⟨u, r, ?_⟩
    rcases l with l | ⟨k, c, e, z⟩
    · exact .inl l
    · exact .inr ⟨k, c, e, cellK x c e _ z⟩
  · obtain ⟨v, z⟩ := I.cell x c e
    exact ⟨v, cellK x c e v z⟩
  · obtain ⟨m, ⟨o, _, _, ho, _⟩, _⟩ := I.loc
    exact free _ o (fun z => (hch _ z).2.1 rfl) ho I.free
  · obtain ⟨v, o, ho, hd⟩ := I.cell x c e
    exact free c o (fun z => (hch c z).2.2.1 x c e rfl) ho (I.freeC x c e)
  · obtain ⟨e, n, ne, nf, d⟩ := I.pin p hp
    have nch : p.1 ∉ ch := fun z => (hch p.1 z).2.2.2 p hp rfl
    exact ⟨keep p.1 p.2 ne nf nch e n, free p.1 p.2 nch e n, ne, nf, d⟩
theorem Inv.un {t' : Nat} (I : Inv X pins σ H s) (u : Un X.fs [] H H' s.heap h') (hok : HOk X.prog X.w H' h') : Inv X pins σ H' { s with heap := h', toks := t' } := by
  obtain ⟨m, ⟨o, es, ep, ho, r⟩, _⟩ := id I.loc
  obtain ⟨sl, hL⟩ := u.any ho I.free (by simp)
  exact I.step (g' := s.gens) (d' := s.drawn) (ch := []) (fun _ z => nomatch z) (fun b o _ hb _ e n => u.keep b o e n hb (by simp)) (fun b o _ hb _ e n => u.slot b o e n hb (by simp)) (fun b o _ e n => u.free b o e n (by simp)) (fun b o _ e => u.there b o e (by simp)) u.tups u.frzs u.tbls (fun m' hm => by
    obtain ⟨o', es', ep', ho', r'⟩ := hm
    rw [ho] at ho'; cases ho'
    exact ⟨_, es', ep', hL, r'⟩) hok I.bare
theorem Inv.call {g' : Array GenState} {t' : Nat} {d' : Drawn} {ch : List Addr} (I : Inv X pins σ H s) (u : Un (frs X.stack) ch H H' s.heap h') (hok : HOk X.prog X.w H' h') (hg : AllBare g')
    (hch : ∀ b ∈ ch, (b ∈ X.ex ∨ X.s_0.heap.objs.size ≤ b) ∧ b ≠ X.env.locals ∧ (∀ x c, X.env.cells.lookup x = some c → c ≠ b) ∧ ∀ p ∈ X.pn ++ pins, p.1 ≠ b) :
    Inv X pins σ H' { s with heap := h', gens := g', drawn := d', toks := t' } := by
  obtain ⟨m, ⟨o, es, ep, ho, r⟩, _⟩ := id I.loc
  obtain ⟨sl, hL⟩ := u.any ho I.free fun z => (hch _ z).2.1 rfl
  exact I.step (ch := ch) hch (fun b o hL hb hc e n => u.keep b o e n (fun z => (List.mem_cons.mp (I.stkSub b z)).elim hL hb) hc) (fun b o _ _ hc e n => u.any e n hc) (fun b o hc e n => u.free b o e n hc) (fun b o hc e => u.there b o e hc) u.tups u.frzs u.tbls (fun m' hm => by
    obtain ⟨o', es', ep', ho', r'⟩ := hm
    rw [ho] at ho'; cases ho'
    exact ⟨_, es', ep', hL, r'⟩) hok hg
theorem Inv.turned {t' : Nat} {it : Addr} (I : Inv X pins σ H s) (k : ∀ b o, b ≠ it → s.heap.get? b = some o → h'.get? b = some o) (hn : H it = none) (hL : it ≠ X.env.locals)
    (h1 : it ∈ X.ex ∨ X.s_0.heap.objs.size ≤ it) (h2 : ∀ x c, X.env.cells.lookup x = some c → c ≠ it) (h3 : ∀ p ∈ X.pn ++ pins, p.1 ≠ it) : Inv X pins σ H { s with heap := h', toks := t' } := by
  have nit : ∀ b u, H b = some u → b ≠ it := fun b u e z => by rw [z, hn] at e; cases e
  refine I.step (g' := s.gens) (d' := s.drawn) (ch := [it]) (fun b hb => ?_) (fun b o _ _ hc e _ => k b o (fun z => hc (by simp [z])) e) (fun b o _ _ hc e _ => ⟨o.slots, k b o (fun z => hc (by simp [z])) e⟩) (fun _ _ _ _ n => n)
    (fun b o hc e => ⟨o, k b o (fun z => hc (by simp [z])) e⟩) (fun _ _ e => e) (fun _ _ _ e => e) (fun b ps e => ⟨#[], by rw [e]; simp⟩) (fun m hm => ?_) (fun b u e => ?_) I.bare
  · have e : b = it := by simpa using hb
    subst e
    exact ⟨h1, hL, h2, h3⟩
  · obtain ⟨o, es, ep, ho, r⟩ := hm
    exact ⟨o, es, ep, k _ o (Ne.symm hL) ho, r⟩
  · refine (I.hok b u e).stay (fun c v hc q => k c v ?_ q) (fun _ q => q) fun _ _ q => q
    rcases hc with z | z
    · rw [z]; exact nit b u e
    · exact nit c _ z
theorem Inv.tok (I : Inv X pins σ H s) (t : Nat) : Inv X pins σ H { s with toks := t } := I.un (h' := s.heap) (t' := t) Un.refl I.hok
theorem Inv.kept {t' : Nat} (I : Inv X pins σ H s) (k : ∀ b u, s.heap.get? b = some u → h'.get? b = some u) : Inv X pins σ H { s with heap := h', toks := t' } := I.un (Un.kept k) (I.hok.kept k)
theorem Inv.laid {a : Addr} {o : HO} {t' : Nat} (I : Inv X pins σ H s) (k : ∀ b u, s.heap.get? b = some u → h'.get? b = some u) (hp : s.heap.objs.size ≤ a) (new : ObjOk X.prog X.w (upd H a o) h' a o) :
    Inv X pins σ (upd H a o) { s with heap := h', toks := t' } := I.un (Un.laid k hp (I.hok.fresh hp)) (I.hok.laid k hp new)
theorem Inv.write {x e : Addr} {o : HO} {t' : Nat} (I : Inv X pins σ H s) (mu : Mut (H x)) (he : e = x ∨ H e = some (.own x)) (k : ∀ b u, b ≠ e → s.heap.get? b = some u → h'.get? b = some u) (heo : ∃ u, h'.get? e = some u)
    (new : ObjOk X.prog X.w (upd H x o) h' x o) : Inv X pins σ (upd H x o) { s with heap := h', toks := t' } := I.un (Un.write mu he k heo) (I.hok.write mu he k heo new)
theorem Inv.weak {σ' : List (Option V)} (I : Inv X pins σ H s) (hl : σ'.length = σ.length) (w : ∀ (i : Nat) v, σ'[i]? = some (some v) → σ[i]? = some (some v)) : Inv X pins σ' H s :=
  ⟨I.ok, I.os, I.bare, I.base, let ⟨m, hn, hl'⟩ := I.loc; ⟨m, hn, fun i x v e1 e2 e3 => hl' i x v e1 (w i v e2) e3⟩, I.cell, I.free, I.freeC, I.pin, I.hok, hl.trans I.len⟩
theorem Inv.pins_of {pins' : List (Addr × Obj)} (I : Inv X pins σ H s) (h : ∀ p ∈ pins', s.heap.get? p.1 = some p.2 ∧ H p.1 = none ∧ p.1 ≠ X.env.locals ∧ p.1 ∉ X.fs ∧ ∀ v, p.2.data ≠ .cell v) : Inv X pins' σ H s :=
  ⟨I.ok, I.os, I.bare, I.base, I.loc, I.cell, I.free, I.freeC, fun p hp => (List.mem_append.mp hp).elim (fun z => I.pin p (List.mem_append_left _ z)) (h p), I.hok, I.len⟩
theorem nodup_ix {N : List Str} (hN : N.Nodup) {i j : Nat} {x : Str} (a : N[i]? = some x) (b : N[j]? = some x) : i = j := by
  obtain ⟨h1, e1⟩ := List.getElem?_eq_some_iff.mp a
  obtain ⟨h2, e2⟩ := List.getElem?_eq_some_iff.mp b
  exact (List.getElem_inj hN).mp (e1.trans e2.symm)
theorem store_ok2 {M : Model} {A : Around} {E : Value → Shared → Prop} {i : Nat} {x : Str} {v : V} {u : Value} {Q : Unit → Shared → Prop} (I : Inv X pins σ H s) (hN : X.N.Nodup) (hi : X.N[i]? = some x) (hx : Loc X.env.scope x) (r : RelV v u)
    (h : ∀ s', Inv X pins (σ.set i (some v)) H s' → (∃ a, Heap.SameBut a s.heap s'.heap ∧ (a = X.env.locals ∨ X.env.cells.lookup x = some a)) → Q () s') (hf : X.fn x = true ∨ X.env.scope.names.lookup x = some .local := by first | exact .inl rfl | exact .inr rfl | assumption) : wpAny M A (storeName X.env x u) Q E s := by
  obtain ⟨m, hn, hl⟩ := id I.loc
  have hcls : (X.env.scope.kind == .class || (X.env.scope.kind == .module && X.env.locals != X.env.globals)) = false := by rw [I.ok.kind]; rfl
  have hiσ : i < σ.length := by rw [I.len]; exact (List.getElem?_eq_some_iff.mp hi).1
  have cne := I.cne
  have tracked : ∀ {a : Addr} {h' : Heap}, (∃ o, s.heap.get? a = some o ∧ H a = none) → Heap.SameBut a s.heap h' → HOk X.prog X.w H h' := fun {a h'} ha hs b ob e => by
    obtain ⟨_, _, hfree⟩ := ha
    refine (I.hok b ob e).stay (fun c w' hc q => (hs.2 c ?_).trans q) (fun _ q => q) fun _ _ q => q
    rintro rfl
    rcases hc with rfl | hc
    · rw [hfree] at e; cases e
    · rw [hfree] at hc; cases hc
  rcases hx with hk | hk
  · refine wpAny_storeName_local hk hn (fun h' hn' hs => ?_) hcls
    obtain ⟨oL, _, _, hoL, _⟩ := id hn
    refine h _ ⟨I.ok, I.os, I.bare, ⟨fun b o e n hb hx => ?_, fun b o e n hb hx => ?_, I.base.free, fun b o e hx => ?_, I.base.tups, I.base.frzs, I.base.tbls⟩, ⟨_, hn', fun j y v' e1 e2 e3 => ?_⟩, fun y c e => ?_, I.free, I.freeC, fun p hp => ?_, tracked ⟨oL, hoL, I.free⟩ hs, by simpa using I.len⟩ ⟨_, hs, .inl rfl⟩
    · exact (hs.2 b (Nat.ne_of_lt (Nat.lt_of_lt_of_le (Heap.lt_size e) I.ok.above))).trans (I.base.keep b o e n hb hx)
    · obtain ⟨sl, e1⟩ := I.base.slot b o e n hb hx
      exact ⟨sl, (hs.2 b (Nat.ne_of_lt (Nat.lt_of_lt_of_le (Heap.lt_size e) I.ok.above))).trans e1⟩
    · obtain ⟨o', e1⟩ := I.base.there b o e hx
      exact ⟨o', (hs.2 b (Nat.ne_of_lt (Nat.lt_of_lt_of_le (Heap.lt_size e) I.ok.above))).trans e1⟩
    · by_cases hj : j = i
      · subst hj
        rw [hi] at e1; cases e1
        rw [List.getElem?_set_self hiσ] at e2
        cases e2
        exact ⟨u, r, .inl ⟨hk, by simp⟩⟩
      · rw [List.getElem?_set_ne (Ne.symm hj)] at e2
        obtain ⟨u', r', q⟩ := hl j y v' e1 e2 e3
        refine ⟨u', r', ?_⟩
        rcases q with ⟨k, e⟩ | ⟨k, c, e, z⟩
        · refine .inl ⟨k, ?_⟩
          have : y ≠ x := fun e => hj (nodup_ix hN e1 (e ▸ hi))
          simp [this, e]
        · exact .inr ⟨k, c, e, z.sameBut hs (cne y c e)⟩
    · obtain ⟨w', z⟩ := I.cell y c e
      exact ⟨w', z.sameBut hs (cne y c e)⟩
    · obtain ⟨e, n, ne, nf, d⟩ := I.pin p hp
      exact ⟨(hs.2 p.1 ne).trans e, n, ne, nf, d⟩
  · have hfn : X.fn x = true := by
      rcases hf with z | z
      · exact z
      · rw [z] at hk; cases hk
    obtain ⟨c, hc⟩ := I.ok.has x (.inl hk)
    obtain ⟨w', z⟩ := I.cell x c hc
    refine wpAny_storeName_cell I.ok.kind hk hc z (fun h' hc' hs => ?_)
    obtain ⟨oc, hoc, hocd⟩ := id z
    refine h { s with heap := h' } ⟨I.ok, I.os, I.bare, ⟨fun b o e n hb hx => ?_, fun b o e n hb hx => ?_, I.base.free, fun b o e hx => ?_, I.base.tups, I.base.frzs, I.base.tbls⟩, ⟨m, hn.sameBut hs (Ne.symm (cne x c hc)), fun j y v' e1 e2 e3 => ?_⟩, fun y c' e => ?_, I.free, I.freeC, fun p hp => ?_, tracked ⟨oc, hoc, I.freeC x c hc⟩ hs, by simpa using I.len⟩ ⟨c, hs, .inr hc⟩
    · exact (hs.2 b (Nat.ne_of_lt (Nat.lt_of_lt_of_le (Heap.lt_size e) (I.ok.cab x c hfn hc)))).trans (I.base.keep b o e n hb hx)
    · obtain ⟨sl, e1⟩ := I.base.slot b o e n hb hx
      exact ⟨sl, (hs.2 b (Nat.ne_of_lt (Nat.lt_of_lt_of_le (Heap.lt_size e) (I.ok.cab x c hfn hc)))).trans e1⟩
    · obtain ⟨o', e1⟩ := I.base.there b o e hx
      exact ⟨o', (hs.2 b (Nat.ne_of_lt (Nat.lt_of_lt_of_le (Heap.lt_size e) (I.ok.cab x c hfn hc)))).trans e1⟩
    · by_cases hj : j = i
      · subst hj
        rw [hi] at e1; cases e1
        rw [List.getElem?_set_self hiσ] at e2
        cases e2
        exact ⟨u, r, .inr ⟨.inl hk, c, hc, hc'⟩⟩
      · rw [List.getElem?_set_ne (Ne.symm hj)] at e2
        obtain ⟨u', r', q⟩ := hl j y v' e1 e2 e3
        refine ⟨u', r', ?_⟩
        rcases q with q | ⟨k, c', e, z'⟩
        · exact .inl q
        · refine .inr ⟨k, c', e, z'.sameBut hs ?_⟩
          rintro rfl
          exact hj (nodup_ix hN e1 (I.ok.inj _ _ _ e hc ▸ hi))
    · by_cases hcc : c' = c
      · subst hcc; exact ⟨_, hc'⟩
      · obtain ⟨w2, z2⟩ := I.cell y c' e
        exact ⟨w2, z2.sameBut hs hcc⟩
    · obtain ⟨e, n, ne, nf, d⟩ := I.pin p hp
      refine ⟨(hs.2 p.1 ?_).trans e, n, ne, nf, d⟩
      intro q
      rw [q, hoc] at e
      have q' : oc = p.2 := Option.some.inj e
      exact d w' (by rw [← q']; exact hocd)
theorem store_ok {M : Model} {A : Around} {E : Value → Shared → Prop} {i : Nat} {x : Str} {v : V} {u : Value} {Q : Unit → Shared → Prop} (I : Inv X pins σ H s) (hN : X.N.Nodup) (hi : X.N[i]? = some x) (hx : Loc X.env.scope x) (r : RelV v u)
    (h : ∀ s', Inv X pins (σ.set i (some v)) H s' → Q () s') (hf : X.fn x = true ∨ X.env.scope.names.lookup x = some .local := by first | exact .inl rfl | exact .inr rfl | assumption) : wpAny M A (storeName X.env x u) Q E s :=
  store_ok2 I hN hi hx r (fun s' I' _ => h s' I') hf
theorem Inv.call' {s' : Shared} {ch : List Addr} (I : Inv X pins σ H s) (ho : s'.os = s.os) (u : Un (frs X.stack) ch H H' s.heap s'.heap) (hok : HOk X.prog X.w H' s'.heap) (hg : AllBare s'.gens)
    (hch : ∀ b ∈ ch, (b ∈ X.ex ∨ X.s_0.heap.objs.size ≤ b) ∧ b ≠ X.env.locals ∧ (∀ x c, X.env.cells.lookup x = some c → c ≠ b) ∧ ∀ p ∈ X.pn ++ pins, p.1 ≠ b) : Inv X pins σ H' s' := by
  obtain ⟨h', g', d', t', o'⟩ := s'
  have e : o' = s.os := ho
  subst e
  exact I.call (g' := g') (t' := t') (d' := d') u hok hg hch
end
abbrev XK := Value → Option Addr → Hp → Prop
abbrev St := List (Option V)
abbrev VK := V → Hp → Prop
abbrev TE := St → Hp → VK → Prop
abbrev TT := St → Hp → (Bool → Hp → Prop) → Prop
abbrev TA := St → Hp → (List V → Hp → Prop) → Prop
structure Ends where
  nx : St → Hp → Prop
  rt : VK
  bk : St → Hp → Prop := fun _ _ => False
  ct : St → Hp → Prop := fun _ _ => False
abbrev TS := Ends → St → Hp → Prop
def EP (X : Cx) (pins : List (Addr × Obj)) (σ : St) (Q : VK) (u : Value) (s' : Shared) : Prop := ∃ v H', Inv X pins σ H' s' ∧ RelV v u ∧ Q v H'
def TP (X : Cx) (pins : List (Addr × Obj)) (σ : St) (Q : Bool → Hp → Prop) (b : Bool) (s' : Shared) : Prop := ∃ H', Inv X pins σ H' s' ∧ Q b H'
def AP (X : Cx) (pins : List (Addr × Obj)) (σ : St) (Q : List V → Hp → Prop) (us : List Value) (s' : Shared) : Prop := ∃ vs H', Inv X pins σ H' s' ∧ Vals vs us ∧ Q vs H'
def SP (X : Cx) (pins : List (Addr × Obj)) (D : Ends) (f : Flow) (s' : Shared) : Prop :=
  match f with
  | .next => ∃ σ' H', Inv X pins σ' H' s' ∧ D.nx σ' H'
  | .brk => ∃ σ' H', Inv X pins σ' H' s' ∧ D.bk σ' H'
  | .cont => ∃ σ' H', Inv X pins σ' H' s' ∧ D.ct σ' H'
  | .ret u => ∃ v σ' H', Inv X pins σ' H' s' ∧ RelV v u ∧ D.rt v H'
def PE (X : Cx) (e : Expr) (t : TE) : Prop :=
  ∀ (pins : List (Addr × Obj)) (s : Shared) (σ : St) (H : Hp) (Q : VK), Inv X pins σ H s → t σ H Q → wpAny (model X.prog X.w) X.A (eval e X.env) (EP X pins σ Q) X.xe s
def PT (X : Cx) (e : Expr) (t : TT) : Prop :=
  ∀ (pins : List (Addr × Obj)) (s : Shared) (σ : St) (H : Hp) (Q : Bool → Hp → Prop), Inv X pins σ H s → t σ H Q → wpAny (model X.prog X.w) X.A (isTrue e X.env (eval e X.env)) (TP X pins σ Q) X.xe s
def PW (X : Cx) (e : Expr) (t : TT) : Prop :=
  ∀ (whole : Sem Value) (pins : List (Addr × Obj)) (s : Shared) (σ : St) (H : Hp) (Q : Bool → Hp → Prop), Inv X pins σ H s → t σ H Q → wpAny (model X.prog X.w) X.A (isTrue e X.env whole) (TP X pins σ Q) X.xe s
theorem PW.pt {X : Cx} {e : Expr} {t : TT} (h : PW X e t) : PT X e t := h _
def PA (X : Cx) (es : List Expr) (t : TA) : Prop :=
  ∀ (pos : Pos) (pins : List (Addr × Obj)) (s : Shared) (σ : St) (H : Hp) (Q : List V → Hp → Prop), Inv X pins σ H s → t σ H Q → wpAny (model X.prog X.w) X.A (spliced (backTo pos (starEach es X.env))) (AP X pins σ Q) X.xe s
def PS (X : Cx) (st : Stmt) (t : TS) : Prop :=
  ∀ (pins : List (Addr × Obj)) (s : Shared) (σ : St) (H : Hp) (D : Ends), Inv X pins σ H s → t D σ H → wpAny (model X.prog X.w) X.A (exec st X.env) (SP X pins D) X.xe s
def PSs (X : Cx) (st : List Stmt) (t : TS) : Prop :=
  ∀ (pins : List (Addr × Obj)) (s : Shared) (σ : St) (H : Hp) (D : Ends), Inv X pins σ H s → t D σ H → wpAny (model X.prog X.w) X.A (execs st X.env) (SP X pins D) X.xe s
theorem thn {α : Type} {t : Sem α} {Q Q' : α → Shared → Prop} {M : Model} {A : Around} {E : Value → Shared → Prop} {s : Shared} (h : wpAny M A t Q E s) (hQ : ∀ a s, Q a s → Q' a s) : wpAny M A t Q' E s := wpAny_mono h hQ fun _ _ x => x
end L2
namespace L2
open PySem PySem.Spec PyProof.Rows
section
variable {X : Cx}
def tVar (i : Nat) : TE := fun σ H Q => ∃ v, σ[i]? = some (some v) ∧ Q v H
def tC (v : V) : TE := fun _ H Q => Q v H
theorem pe_var {i : Nat} {x : Str} {pos : Pos} (hN : X.N[i]? = some x) (hv : Vis X.env.scope x) (hd : (x == ("__debug__" : Str)) = false := by decide) (hcd : (x == ("__classdict__" : Str)) = false := by decide) : PE X (.Name x pos) (tVar i) := by
  intro pins s σ H Q I h
  obtain ⟨v, e, h⟩ := h
  obtain ⟨m, hn, hl⟩ := I.loc
  obtain ⟨u, r, l⟩ := hl i x v hN e hv
  have fin : EP X pins σ Q u s := ⟨v, H, I, r, h⟩
  rcases l with ⟨hk, hm⟩ | ⟨hk, c, hc, hcell⟩
  · exact wpAny_Name (wpAny_loadName_local I.ok.kind hk hn hm fin) hd
  · rcases hk with hk | hk
    · exact wpAny_Name (wpAny_loadName_cell I.ok.kind hk hc hcell fin) hd
    · exact wpAny_Name (wpAny_loadName_free I.ok.kind hk hc hcell fin hcd) hd
theorem pe_int {i j pos} : PE X (.Constant (.int i) j pos) (tC (.int i)) := fun _ _ _ H _ I h => wpAny_Constant_int ⟨.int i, H, I.tok _, ⟨_, rfl⟩, h⟩
theorem pe_bl {b j pos} : PE X (.Constant (.bool b) j pos) (tC (.bl b)) := fun _ _ _ H _ I h => Constant_bool ⟨.bl b, H, I, rfl, h⟩
def Gl (X : Cx) (x : Str) : Prop := X.env.kindOf x = some .globalImplicit
theorem ld_glob {E : Value → Shared → Prop} {pins : List (Addr × Obj)} {s : Shared} {σ : St} {H : Hp} {x : Str} {u : Value} {pos : Pos} {Q : Value → Shared → Prop} (I : Inv X pins σ H s) (hg : Gl X x) (hm : X.mg x = some u) (h : Q u s)
    (hd : (x == ("__debug__" : Str)) = false := by decide) : wpAny (model X.prog X.w) X.A (eval (.Name x pos) X.env) Q E s :=
  Calls.Name_function_global I.ok.kind hg (Calls.loadGlobal_global (by rw [I.ok.glob]; exact I.mod.glob.keeps I.bk) hm h) hd
theorem ld_blt {E : Value → Shared → Prop} {pins : List (Addr × Obj)} {s : Shared} {σ : St} {H : Hp} {x : Str} {u : Value} {pos : Pos} {Q : Value → Shared → Prop} (I : Inv X pins σ H s) (hg : Gl X x) (hm : X.mg x = none) (hv : bootBuiltins x = some u) (h : Q u s)
    (hn : x ≠ "__name__" := by decide) (hd : (x == ("__debug__" : Str)) = false := by decide) : wpAny (model X.prog X.w) X.A (eval (.Name x pos) X.env) Q E s := by
  obtain ⟨mb, h1, h2⟩ := I.mod.blt
  exact Calls.Name_function_global I.ok.kind hg (Calls.loadGlobal_builtin (by rw [I.ok.glob]; exact I.mod.glob.keeps I.bk) hm (by rw [I.ok.blt]; exact h1.keeps I.bk) ((h2 x hn).trans hv) h) hd
theorem pe_glob {x : Str} {v : V} {u : Value} {pos : Pos} (hg : Gl X x) (hm : X.mg x = some u) (r : RelV v u) (hd : (x == ("__debug__" : Str)) = false := by decide) : PE X (.Name x pos) (tC v) :=
  fun _ _ _ H _ I h => ld_glob I hg hm ⟨v, H, I, r, h⟩ hd
variable {a b : Expr} {ta tb : TE} {pos : Pos}
def tB (t : TE) : TT := fun σ H Q => t σ H fun x H1 => ∃ c, x = .bl c ∧ Q c H1
theorem pt_val {e : Expr} {t : TE} (h : PE X e t) (he : ∀ whole, isTrue e X.env whole = (do let v ← whole; standAt e.pos; holding [v] (truthy v)) := by intro _; rfl) : PT X e (tB t) := by
  intro pins s σ H Q I hw
  refine isTrue_plain (thn (h pins s σ H _ I hw) fun v s1 ⟨x, H1, I1, r1, q1⟩ => ?_) (he _)
  obtain ⟨d, rfl, q⟩ := q1
  cases r1
  exact wpAny_truthy_bool ⟨H1, I1, q⟩
variable {tA tB' : TT} {rest : List Expr}
def tAnd (t u : TT) : TT := fun σ H Q => t σ H fun c H1 => if c = true then u σ H1 Q else Q false H1
def tOr (t u : TT) : TT := fun σ H Q => t σ H fun c H1 => if c = true then Q true H1 else u σ H1 Q
def tNot (t : TT) : TT := fun σ H Q => t σ H fun c H1 => Q (!c) H1
theorem pw_and1 (ha : PT X a tA) : PW X (.BoolOp .And [a] pos) tA := by
  intro wh pins s σ H Q I h
  refine isTrue_and (thn (ha pins s σ H Q I h) fun c s1 e => ?_)
  cases c with
  | true => exact isTrue_and_nil e
  | false => exact e
theorem pw_or1 (ha : PT X a tA) : PW X (.BoolOp .Or [a] pos) tA := by
  intro wh pins s σ H Q I h
  refine isTrue_or (thn (ha pins s σ H Q I h) fun c s1 e => ?_)
  cases c with
  | false => exact isTrue_or_nil e
  | true => exact e
theorem pw_and (ha : PT X a tA) (hb : PW X (.BoolOp .And (b :: rest) pos) tB') : PW X (.BoolOp .And (a :: b :: rest) pos) (tAnd tA tB') := by
  intro wh pins s σ H Q I h
  refine isTrue_and (thn (ha pins s σ H _ I h) fun c s1 ⟨H1, I1, q1⟩ => ?_)
  cases c with
  | true => exact hb wh pins s1 σ H1 Q I1 q1
  | false => exact ⟨H1, I1, q1⟩
theorem pw_or (ha : PT X a tA) (hb : PW X (.BoolOp .Or (b :: rest) pos) tB') : PW X (.BoolOp .Or (a :: b :: rest) pos) (tOr tA tB') := by
  intro wh pins s σ H Q I h
  refine isTrue_or (thn (ha pins s σ H _ I h) fun c s1 ⟨H1, I1, q1⟩ => ?_)
  cases c with
  | true => exact ⟨H1, I1, q1⟩
  | false => exact hb wh pins s1 σ H1 Q I1 q1
theorem pt_not (ha : PT X a tA) : PT X (.UnaryOp .Not a pos) (tNot tA) := by
  intro pins s σ H Q I h
  exact isTrue_not (ha pins s σ H (fun c H1 => Q (!c) H1) I h)
end
end L2
namespace L2
open PySem PySem.Spec PyProof.Rows
def SqL (K : PySem.W.Frag) (H : Hp) (a : Addr) (xs : List V) : Prop :=
  Rd H a (.lst xs) ∨
    ∃ (o : Obj) (its : Array Value) (n : Nat), K.lookup a = some o ∧ o.cls = .type "list" ∧ o.dict = none ∧ o.data = .seq its n ∧ its.size ≤ sizeLine ∧ Vals xs its.toList
def SqT (K : PySem.W.Frag) (H : Hp) (a : Addr) (xs : List V) : Prop :=
  Rd H a (.tup xs) ∨
    ∃ (o : Obj) (its : Array Value) (n : Nat), K.lookup a = some o ∧ o.cls = .type "tuple" ∧ o.data = .seq its n ∧ its.size ≤ sizeLine ∧ Vals xs its.toList
def absV : Value → Option V
  | .none => some .non
  | .bool b => some (.bl b)
  | .int i _ => some (.int i)
  | .str x _ => some (.str x)
  | .bytes b _ => some (.byt b)
  | .float b _ => some (.flt b)
  | .ref a => some (.ref a)
  | .type n => some (.ty n)
  | _ => none
theorem RelV.abs {x : V} {u : Value} (r : RelV x u) : absV u = some x := by
  cases x with
  | non => cases r; rfl
  | bl _ => cases r; rfl
  | int _ => obtain ⟨t, rfl⟩ := r; rfl
  | str _ => obtain ⟨t, rfl⟩ := r; rfl
  | byt _ => obtain ⟨t, rfl⟩ := r; rfl
  | flt _ => obtain ⟨t, rfl⟩ := r; rfl
  | ref _ => cases r; rfl
  | ty _ => cases r; rfl
theorem RelV.inj {x y : V} {u : Value} (r : RelV x u) (q : RelV y u) : x = y := Option.some.inj (r.abs.symm.trans q.abs)
theorem Vals.inj : ∀ {xs ys : List V} {us : List Value}, Vals xs us → Vals ys us → xs = ys
  | _, _, _, .nil, .nil => rfl
  | _, _, _, .cons r t, .cons r' t' => by rw [r.inj r', Vals.inj t t']
section
variable {X : Cx} {pins : List (Addr × Obj)} {σ : St} {H : Hp} {s : Shared} {a : Addr} {xs ys : List V}
theorem SqL.of {K : PySem.W.Frag} (h : H a = some (.lst xs)) : SqL K H a xs := .inl (.inl h)
theorem Inv.list (I : Inv X pins σ H s) (h : SqL X.K H a xs) : ∃ its : List Value, Vals xs its ∧ PlainL s.heap a its.toArray ∧ xs.length ≤ sizeLine := by
  rcases h with h | ⟨o, its, n, hk, hc, hd, hs, hz, r⟩
  · obtain ⟨z, its, n, r, e⟩ := h.ok I.hok
    exact ⟨its, r, ⟨_, n, e, rfl, rfl, rfl⟩, z⟩
  · refine ⟨its.toList, r, ⟨o, n, I.kIn a o hk, hc, hd, by simpa using hs⟩, ?_⟩
    have e := r.length
    simp only [Array.length_toList] at e
    omega
theorem Inv.tuple (I : Inv X pins σ H s) (h : SqT X.K H a xs) : ∃ its : List Value, Vals xs its ∧ IsTup s.heap a its.toArray ∧ xs.length ≤ sizeLine := by
  rcases h with h | ⟨o, its, n, hk, hc, hs, hz, r⟩
  · obtain ⟨z, its, r, p⟩ := h.ok I.hok
    exact ⟨its, r, p, z⟩
  · refine ⟨its.toList, r, ⟨o, I.kIn a o hk, hc, n, by simpa using hs⟩, ?_⟩
    have e := r.length
    simp only [Array.length_toList] at e
    omega
theorem Inv.list_inj (I : Inv X pins σ H s) (h : SqL X.K H a xs) (h' : SqL X.K H a ys) : xs = ys := by
  obtain ⟨its, r, ⟨o, n, e, _, _, d⟩, _⟩ := I.list h
  obtain ⟨its', r', ⟨o', n', e', _, _, d'⟩, _⟩ := I.list h'
  rw [e] at e'; cases e'
  rw [d] at d'
  injection d' with d1 _
  have : its = its' := by simpa using congrArg Array.toList d1
  subst this
  exact r.inj r'
theorem Inv.tuple_inj (I : Inv X pins σ H s) (h : SqT X.K H a xs) (h' : SqT X.K H a ys) : xs = ys := by
  obtain ⟨its, r, ⟨o, e, _, n, d⟩, _⟩ := I.tuple h
  obtain ⟨its', r', ⟨o', e', _, n', d'⟩, _⟩ := I.tuple h'
  rw [e] at e'; cases e'
  rw [d] at d'
  injection d' with d1 _
  have : its = its' := by simpa using congrArg Array.toList d1
  subst this
  exact r.inj r'
end
abbrev Cx.wish (X : Cx) (E : Value → Shared → Prop) : Cx := { X with xe := E }
abbrev Cx.nox (X : Cx) : Cx := X.wish fun _ _ => False
theorem Cx.Ok.wish {X : Cx} (ok : X.Ok) (E : Value → Shared → Prop) : (X.wish E).Ok :=
  ⟨ok.mod, ok.kind, ok.glob, ok.blt, ok.above, ok.inj, ok.has, ok.cab, ok.hd, ok.frames, ok.stk, ok.exf, ok.bs, ok.bsz, ok.noex, ok.exfs, ok.funs, ok.frf⟩
theorem Cx.Ok.unwish {X : Cx} {E : Value → Shared → Prop} (ok : (X.wish E).Ok) : X.Ok :=
  ⟨ok.mod, ok.kind, ok.glob, ok.blt, ok.above, ok.inj, ok.has, ok.cab, ok.hd, ok.frames, ok.stk, ok.exf, ok.bs, ok.bsz, ok.noex, ok.exfs, ok.funs, ok.frf⟩
section
variable {X : Cx} {pins : List (Addr × Obj)} {σ : St} {H : Hp} {s : Shared} {E : Value → Shared → Prop}
theorem Inv.wish (I : Inv X pins σ H s) (E : Value → Shared → Prop) : Inv (X.wish E) pins σ H s := ⟨I.ok.wish E, I.os, I.bare, I.base, I.loc, I.cell, I.free, I.freeC, I.pin, I.hok, I.len⟩
theorem Inv.unwish (I : Inv (X.wish E) pins σ H s) : Inv X pins σ H s := ⟨I.ok.unwish, I.os, I.bare, I.base, I.loc, I.cell, I.free, I.freeC, I.pin, I.hok, I.len⟩
theorem SP.unwish {D : Ends} {f : Flow} {s' : Shared} (h : SP (X.wish E) pins D f s') : SP X pins D f s' := by
  cases f with
  | next => obtain ⟨σ', H', I, q⟩ := h; exact ⟨σ', H', I.unwish, q⟩
  | brk => obtain ⟨σ', H', I, q⟩ := h; exact ⟨σ', H', I.unwish, q⟩
  | cont => obtain ⟨σ', H', I, q⟩ := h; exact ⟨σ', H', I.unwish, q⟩
  | ret u => obtain ⟨v, σ', H', I, r, q⟩ := h; exact ⟨v, σ', H', I.unwish, r, q⟩
theorem PSs.nox {st : List Stmt} {t : TS} (h : PSs X.nox st t) : PSs X st t := fun pins s σ H D I hw =>
  wpAny_mono (h pins s σ H D (I.wish _) hw) (fun _ _ q => q.unwish) fun _ _ z => False.elim z
end
section
variable {X : Cx} {st : Stmt} {rest : List Stmt} {t u : TS} {e : Expr} {te : TE} {pos : Pos}
def tNext : TS := fun D σ H => D.nx σ H
def tSeq (t u : TS) : TS := fun D σ H => t { D with nx := u D } σ H
theorem pss_nil : PSs X [] tNext := fun _ _ σ H _ I h => wpAny_execs_nil ⟨σ, H, I, h⟩
theorem pss_cons (h1 : PS X st t) (h2 : PSs X rest u) : PSs X (st :: rest) (tSeq t u) := by
  intro pins s σ H D I h
  refine wpAny_execs_cons (thn (h1 pins s σ H { D with nx := u D } I h) fun f s1 q => ?_)
  cases f with
  | next =>
    obtain ⟨σ', H', I', q⟩ := q
    exact h2 pins s1 σ' H' D I' q
  | ret v => exact q
  | brk => exact q
  | cont => exact q
theorem pss_one (h1 : PS X st t) : PSs X [st] t := by
  intro pins s σ H D I h
  refine wpAny_execs_cons (thn (h1 pins s σ H D I h) fun f s1 q => ?_)
  cases f with
  | next => exact wpAny_execs_nil q
  | ret v => exact q
  | brk => exact q
  | cont => exact q
theorem Inv.quiet {pins : List (Addr × Obj)} {σ : St} {H : Hp} {s : Shared} (I : Inv X pins σ H s) : interactive X.env = false := by simp [interactive, I.ok.kind]
def tDrop (te : TE) : TS := fun D σ H => te σ H fun _ H1 => D.nx σ H1
theorem ps_expr (he : PE X e te) (hs : swapsWith e none pos.line X.env = pure false := by rfl) : PS X (.Expr e pos) (tDrop te) := by
  intro pins s σ H D I h
  exact wpAny_Expr_any (thn (he pins s σ H _ I h) fun v s1 ⟨x, H1, I1, r1, q1⟩ => ⟨σ, H1, I1, q1⟩) I.quiet hs
def tRet (te : TE) : TS := fun D σ H => te σ H D.rt
theorem ps_ret (he : PE X e te) : PS X (.Return (some e) pos) (tRet te) := by
  intro pins s σ H D I h
  exact wpAny_Return_some (thn (he pins s σ H _ I h) fun v s1 ⟨x, H1, I1, r1, q1⟩ => ⟨x, σ, H1, I1, r1, q1⟩)
def tIfS (c : TT) (t u : TS) : TS := fun D σ H => c σ H fun b H1 => if b = true then t D σ H1 else u D σ H1
theorem ps_if {c : Expr} {a b : List Stmt} {tc : TT} (hc : PT X c tc) (ha : PSs X a t) (hb : PSs X b u) : PS X (.If c a b pos) (tIfS tc t u) := by
  intro pins s σ H D I h
  refine wpAny_If (thn (hc pins s σ H _ I h) fun d s1 ⟨H1, I1, q1⟩ => ?_)
  cases d with
  | true => exact ha pins s1 σ H1 D I1 q1
  | false => exact hb pins s1 σ H1 D I1 q1
end
abbrev TG := V → St → Hp → (St → Hp → Prop) → Prop
abbrev TGs := List V → St → Hp → (St → Hp → Prop) → Prop
def PG (X : Cx) (target : Expr) (t : TG) : Prop :=
  ∀ (pins : List (Addr × Obj)) (s : Shared) (σ : St) (H : Hp) (v : V) (u : Value) (Q : St → Hp → Prop), Inv X pins σ H s → RelV v u → t v σ H Q →
    wpAny (model X.prog X.w) X.A (assign target X.env u) (fun _ s' => ∃ σ' H', Inv X pins σ' H' s' ∧ Q σ' H') X.xe s
def PGs (X : Cx) (ts : List Expr) (t : TGs) : Prop :=
  ∀ (pins : List (Addr × Obj)) (s : Shared) (σ : St) (H : Hp) (vs : List V) (us : List Value) (Q : St → Hp → Prop), Inv X pins σ H s → Vals vs us → t vs σ H Q →
    wpAny (model X.prog X.w) X.A (assignInOrder ((assignEach ts X.env).map (·.2)) us) (fun _ s' => ∃ σ' H', Inv X pins σ' H' s' ∧ Q σ' H') X.xe s
abbrev TSet := V → V → V → Hp → (Hp → Prop) → Prop
def PSet (X : Cx) (t : TSet) : Prop :=
  ∀ (pins : List (Addr × Obj)) (s : Shared) (σ : St) (H : Hp) (o i v : V) (ov iv u : Value) (Q : Hp → Prop), Inv X pins σ H s → RelV o ov → RelV i iv → RelV v u → t o i v H Q →
    wpAny (model X.prog X.w) X.A (setItem ov iv u) (fun _ s' => ∃ H', Inv X pins σ H' s' ∧ Q H') X.xe s
abbrev TIp := V → V → Hp → VK → Prop
def PIp (X : Cx) (op : Operator) (t : TIp) : Prop :=
  ∀ (pins : List (Addr × Obj)) (s : Shared) (σ : St) (H : Hp) (x y : V) (v u : Value) (Q : VK), Inv X pins σ H s → RelV x v → RelV y u → t x y H Q →
    wpAny (model X.prog X.w) X.A (inplaceOp op v u) (EP X pins σ Q) X.xe s
section
variable {X : Cx} {pos : Pos}
def gName (i : Nat) : TG := fun v σ H Q => Q (σ.set i (some v)) H
theorem pg_name {i : Nat} {x : Str} (hN : X.N.Nodup) (hi : X.N[i]? = some x) (hx : Loc X.env.scope x) (hf : X.fn x = true ∨ X.env.scope.names.lookup x = some .local := by first | exact .inl rfl | exact .inr rfl | assumption) : PG X (.Name x pos) (gName i) := by
  intro pins s σ H v u Q I r h
  exact wpAny_assign_Name (store_ok I hN hi hx r (fun s' I' => ⟨_, H, I', h⟩) hf)
def gNil : TGs := fun vs σ H Q => vs = [] ∧ Q σ H
def gCons (t : TG) (u : TGs) : TGs := fun vs σ H Q => ∃ v r, vs = v :: r ∧ t v σ H fun σ' H' => u r σ' H' Q
theorem pgs_nil : PGs X [] gNil := by
  intro pins s σ H vs us Q I r h
  obtain ⟨e, h⟩ := h
  subst e
  cases r
  exact assignInOrder_nil ⟨σ, H, I, h⟩
theorem pgs_cons {e : Expr} {es : List Expr} {t : TG} {u : TGs} (h1 : PG X e t) (h2 : PGs X es u)
    (hs : (assignEach (e :: es) X.env).map (·.2) = assign e X.env :: (assignEach es X.env).map (·.2) := by rfl) : PGs X (e :: es) (gCons t u) := by
  intro pins s σ H vs us Q I r h
  obtain ⟨v, vr, e1, h⟩ := h
  subst e1
  cases r with
  | cons r rr =>
    rw [hs]
    refine assignInOrder_cons (thn (h1 pins s σ H _ _ _ I r h) fun _ s1 ⟨σ1, H1, I1, q1⟩ => ?_)
    exact h2 pins s1 σ1 H1 _ _ Q I1 rr q1
def gTup (K : PySem.W.Frag) (n : Nat) (t : TGs) : TG := fun v σ H Q => ∃ a xs, v = .ref a ∧ SqT K H a xs ∧ xs.length = n ∧ t xs σ H Q
theorem pg_tup {es : List Expr} {k : Nat} {t : TGs} {n : Nat} (hc : X.calm = true) (h : PGs X es t)
    (hn : (assignEach es X.env).length = n := by rfl) (hst : (assignEach es X.env).findIdx? (·.1) = none := by rfl) : PG X (.Tuple es k pos) (gTup X.K n t) := by
  intro pins s σ H v u Q I r hw
  obtain ⟨a, xs, e1, hq, hl, hw⟩ := hw
  subst e1
  cases r
  obtain ⟨its, rv, ht, hz⟩ := I.tuple hq
  refine assign_Tuple_tuple (I.ok.hd hc) ht (by simp [hn, ← hl, rv.length]) hst fun h' hx => ?_
  have I1 : Inv X pins σ H { s with heap := h' } := I.kept (t' := s.toks) fun b o e => hx b o (Nat.ne_of_lt (Heap.lt_size e)) e
  exact h pins _ σ H xs _ Q I1 (by simpa using rv) hw
def gSub (to ti : TE) (t : TSet) : TG := fun v σ H Q => to σ H fun o H1 => ti σ H1 fun i H2 => t o i v H2 fun H3 => Q σ H3
theorem pg_sub {o i : Expr} {to ti : TE} {t : TSet} (ho : PE X o to) (hi : PE X i ti) (hs : PSet X t)
    (ha : ∀ v, assign (.Subscript o i pos) X.env v = (do
      let ov ← holding [v] (eval o X.env)
      let iv ← holding [v, ov] (eval i X.env)
      standAt pos
      holding [v, ov, iv] (setItem ov iv v)
      release [v, ov, iv] []) := by intro _; rfl) : PG X (.Subscript o i pos) (gSub to ti t) := by
  intro pins s σ H v u Q I r h
  rw [ha]
  refine wpAny_bind (wpAny_holding (thn (ho pins s σ H _ I h) fun ov s1 ⟨x, H1, I1, r1, q1⟩ => ?_))
  refine wpAny_bind (wpAny_holding (thn (hi pins s1 σ H1 _ I1 q1) fun iv s2 ⟨y, H2, I2, r2, q2⟩ => ?_))
  refine wpAny_bind (wpAny_standAt (wpAny_bind (wpAny_holding (thn (hs pins s2 σ H2 x y v ov iv u _ I2 r1 r2 r q2) fun _ s3 ⟨H3, I3, q3⟩ => ?_))))
  exact wpAny_release ⟨σ, H3, I3, q3⟩
def tAsg (te : TE) (g : TG) : TS := fun D σ H => te σ H fun x H1 => g x σ H1 D.nx
theorem ps_asg {tg e : Expr} {te : TE} {g : TG} (he : PE X e te) (hg : PG X tg g) (hs : swapsWithSole [tg] e pos.line X.env = pure false := by rfl) (hw : swappedStores [tg] e X.env = pure none := by rfl)
    (h1 : (assignEach [tg] X.env).map (·.2) = [assign tg X.env] := by rfl) : PS X (.Assign [tg] e pos) (tAsg te g) := by
  intro pins s σ H D I h
  refine wpAny_Assign_stores (thn (he pins s σ H _ I h) fun v s1 ⟨x, H1, I1, r1, q1⟩ => ?_) hs hw
  rw [h1]
  exact thn (hg pins s1 σ H1 x v _ I1 r1 q1) fun _ s2 q => q
theorem ps_set {i : Nat} {x : Str} {e : Expr} {te : TE} {pos' : Pos} (hN : X.N.Nodup) (hi : X.N[i]? = some x) (hx : Loc X.env.scope x) (he : PE X e te) (hs : swapsWith e (some (.Name x pos')) pos.line X.env = pure false := by rfl) (hf : X.fn x = true ∨ X.env.scope.names.lookup x = some .local := by first | exact .inl rfl | exact .inr rfl | assumption) :
    PS X (.Assign [.Name x pos'] e pos) (tAsg te (gName i)) := by
  intro pins s σ H D I h
  refine wpAny_Assign_Name (thn (he pins s σ H _ I h) fun v s1 ⟨y, H1, I1, r1, q1⟩ => ?_) hs
  exact store_ok I1 hN hi hx r1 (fun s2 I2 => ⟨_, H1, I2, q1⟩) hf
def tAug (i : Nat) (te : TE) (ti : TIp) : TS := fun D σ H => ∃ x, σ[i]? = some (some x) ∧ te σ H fun y H1 => ti x y H1 fun z H2 => D.nx (σ.set i (some z)) H2
theorem ps_aug {i : Nat} {x : Str} {e : Expr} {te : TE} {op : Operator} {ti : TIp} {pos' : Pos} (hN : X.N.Nodup) (hi : X.N[i]? = some x) (hx : Loc X.env.scope x) (he : PE X e te) (ho : PIp X op ti) (hf : X.fn x = true ∨ X.env.scope.names.lookup x = some .local := by first | exact .inl rfl | exact .inr rfl | assumption) :
    PS X (.AugAssign (.Name x pos') op e pos) (tAug i te ti) := by
  intro pins s σ H D I h
  obtain ⟨v, e1, h⟩ := h
  obtain ⟨m, hn, hl⟩ := I.loc
  have vis : Vis X.env.scope x := by rcases hx with k | k; exact .inl k; exact .inr (.inl k)
  obtain ⟨u, r, l⟩ := hl i x v hi e1 vis
  refine wpAny_AugAssign_Name ?_
  have go : wpAny (model X.prog X.w) X.A (eval e X.env) (fun w s₂ => wpAny (model X.prog X.w) X.A (inplaceOp op u w) (fun r s₃ => wpAny (model X.prog X.w) X.A (storeName X.env x r) (fun _ => SP X pins D .next) X.xe s₃) X.xe s₂) X.xe s := by
    refine thn (he pins s σ H _ I h) fun w s1 ⟨y, H1, I1, r1, q1⟩ => ?_
    refine thn (ho pins s1 σ H1 v y u w _ I1 r r1 q1) fun z s2 ⟨zv, H2, I2, r2, q2⟩ => ?_
    exact store_ok I2 hN hi hx r2 (fun s3 I3 => ⟨_, H2, I3, q2⟩) hf
  rcases l with ⟨hk, hm⟩ | ⟨hk, c, hc, hcell⟩
  · exact wpAny_loadName_local I.ok.kind hk hn hm go
  · rcases hk with hk | hk
    · exact wpAny_loadName_cell I.ok.kind hk hc hcell go
    · rcases hx with k | k
      · have : X.env.scope.names.lookup x = some .free := hk
        rw [k] at this; cases this
      · have : X.env.scope.names.lookup x = some .free := hk
        rw [k] at this; cases this
def tAugS (to ti te : TE) (tget : V → V → Hp → VK → Prop) (tip : TIp) (tset : TSet) : TS := fun D σ H => to σ H fun o H1 => ti σ H1 fun i H2 => tget o i H2 fun x H3 => te σ H3 fun y H4 => tip x y H4 fun z H5 => tset o i z H5 fun H6 => D.nx σ H6
def PGet (X : Cx) (t : V → V → Hp → VK → Prop) : Prop :=
  ∀ (pins : List (Addr × Obj)) (s : Shared) (σ : St) (H : Hp) (o i : V) (ov iv : Value) (Q : VK), Inv X pins σ H s → RelV o ov → RelV i iv → t o i H Q →
    wpAny (model X.prog X.w) X.A (getItem ov iv) (EP X pins σ Q) X.xe s
theorem ps_augS {o i e : Expr} {to ti te : TE} {tget : V → V → Hp → VK → Prop} {tip : TIp} {tset : TSet} {op : Operator} {tpos : Pos} (ho : PE X o to) (hi : PE X i ti) (hg : PGet X tget) (he : PE X e te) (hp : PIp X op tip) (hs : PSet X tset)
    (ha : ∀ ov iv new, augStore i ov iv new = (do holding [new, ov, iv] (setItem ov iv new); release [new, ov, iv] []; pure .next) := by intros; rfl) : PS X (.AugAssign (.Subscript o i tpos) op e pos) (tAugS to ti te tget tip tset) := by
  intro pins s σ H D I h
  refine wpAny_AugAssign_SubscriptAny (thn (ho pins s σ H _ I h) fun ov s1 ⟨x1, H1, I1, r1, q1⟩ => ?_) ha
  refine thn (hi pins s1 σ H1 _ I1 q1) fun iv s2 ⟨x2, H2, I2, r2, q2⟩ => ?_
  refine thn (hg pins s2 σ H2 x1 x2 ov iv _ I2 r1 r2 q2) fun old s3 ⟨x3, H3, I3, r3, q3⟩ => ?_
  refine thn (he pins s3 σ H3 _ I3 q3) fun v s4 ⟨x4, H4, I4, r4, q4⟩ => ?_
  refine thn (hp pins s4 σ H4 x3 x4 old v _ I4 r3 r4 q4) fun new s5 ⟨x5, H5, I5, r5, q5⟩ => ?_
  exact thn (hs pins s5 σ H5 x1 x2 x5 ov iv new _ I5 r1 r2 r5 q5) fun _ s6 ⟨H6, I6, q6⟩ => ⟨σ, H6, I6, q6⟩
def ipI (f : Int → Int → Int) : TIp := fun x y H Q => ∃ i j, x = .int i ∧ y = .int j ∧ Q (.int (f i j)) H
theorem ip_add : PIp X .Add (ipI fun i j => i + j) := by
  intro pins s σ H x y v u Q I r1 r2 h
  obtain ⟨i, j, e1, e2, q⟩ := h
  subst e1; subst e2
  obtain ⟨t, rfl⟩ := r1
  obtain ⟨t', rfl⟩ := r2
  exact iadd_int ⟨.int _, H, I.tok _, ⟨_, rfl⟩, q⟩
theorem ip_sub : PIp X .Sub (ipI fun i j => i - j) := by
  intro pins s σ H x y v u Q I r1 r2 h
  obtain ⟨i, j, e1, e2, q⟩ := h
  subst e1; subst e2
  obtain ⟨t, rfl⟩ := r1
  obtain ⟨t', rfl⟩ := r2
  exact isub_int ⟨.int _, H, I.tok _, ⟨_, rfl⟩, q⟩
end
section
variable {X : Cx} {pos : Pos}
def tWhile (c : TT) (tb : TS) : TS := fun D σ H => ∃ W : Nat → St → Hp → Prop, (∃ m, W m σ H) ∧ ∀ m σ H, W m σ H →
  c σ H fun b H1 => if b = true then ∃ N : St → Hp → Prop, (∀ σ' H', N σ' H' → ∃ m', m' < m ∧ W m' σ' H') ∧ tb { D with nx := N, ct := N, bk := D.nx } σ H1 else D.nx σ H1
theorem ps_while {c : Expr} {body : List Stmt} {tc : TT} {tb : TS} (hp : PassesOwn (model X.prog X.w) X.A X.env X.xe) (hc : PT X c tc) (hb : PSs X body tb) : PS X (.While c body [] pos) (tWhile tc tb) := by
  intro pins s σ H D I h
  obtain ⟨W, ⟨m0, w0⟩, turn⟩ := h
  refine wpAny_While (codeAny_whileLoop (fun n s' => ∃ σ' H', Inv X pins σ' H' s' ∧ W n σ' H') ?_ m0 ⟨σ, H, I, w0⟩)
  rintro n s1 ⟨σ1, H1, I1, w1⟩
  refine wpAny_passesOwn hp (thn (hc pins s1 σ1 H1 _ I1 (turn n σ1 H1 w1)) fun b s2 ⟨H2, I2, q2⟩ => ?_)
  cases b with
  | true =>
    obtain ⟨N, hN, q2⟩ := q2
    rw [if_pos rfl]
    refine wpAny_passesOwn hp (thn (hb pins s2 σ1 H2 _ I2 q2) fun f s3 q3 => ?_)
    cases f with
    | next =>
      obtain ⟨σ3, H3, I3, n3⟩ := q3
      obtain ⟨m', hm, w3⟩ := hN σ3 H3 n3
      exact ⟨m', hm, σ3, H3, I3, w3⟩
    | cont =>
      obtain ⟨σ3, H3, I3, n3⟩ := q3
      obtain ⟨m', hm, w3⟩ := hN σ3 H3 n3
      exact ⟨m', hm, σ3, H3, I3, w3⟩
    | brk => exact q3
    | ret v => exact q3
  | false =>
    rw [if_neg Bool.false_ne_true]
    exact wpAny_execs_nil ⟨σ1, H2, I2, q2⟩
end
structure It where
  go : Nat → Hp → Prop
  yld : Nat → Hp → V → Hp → Prop
  stop : Nat → Hp → Prop
def FpOk (X : Cx) (pins : List (Addr × Obj)) (H : Hp) (b : Addr) : Prop :=
  H b = none ∧ b ≠ X.env.locals ∧ b ∉ X.fs ∧ (b ∈ X.ex ∨ X.s_0.heap.objs.size ≤ b) ∧ (∀ x c, X.env.cells.lookup x = some c → c ≠ b) ∧ ∀ p ∈ X.pn ++ pins, p.1 ≠ b
theorem Inv.fpOk {X : Cx} {pins : List (Addr × Obj)} {σ : St} {H H' : Hp} {s : Shared} {b : Addr} (I : Inv X pins σ H s) (hb : s.heap.objs.size ≤ b) (hn : H' b = none) : FpOk X pins H' b := by
  refine ⟨hn, Nat.ne_of_gt (Nat.lt_of_lt_of_le I.lt hb), I.nofs hb, .inr (Nat.le_trans I.sz hb), fun x c e z => ?_, fun p hp z => ?_⟩
  · obtain ⟨v, q⟩ := I.cell x c e
    exact absurd (Nat.lt_of_lt_of_le q.lt (by rw [z]; exact hb)) (Nat.lt_irrefl _)
  · exact absurd (Nat.lt_of_lt_of_le (Heap.lt_size (I.pin p hp).1) (by rw [z]; exact hb)) (Nat.lt_irrefl _)
structure Turn (P : Program) (w : World) (K : PySem.W.Frag) (tg : Expr) (J : It) (fp : List Addr) (it : Addr) (tn : Nat → Heap → Prop) : Prop where
  mem : it ∈ fp
  obj : ∀ i h, tn i h → ∀ b ∈ fp, ∃ o, h.get? b = some o ∧ ∀ v, o.data ≠ .cell v
  keep : ∀ i h h', tn i h → (∀ b ∈ fp, ∀ o, h.get? b = some o → h'.get? b = some o) → tn i h'
  item : ∀ (X : Cx), X.prog = P → X.w = w → X.K = K → X.calm = true → ∀ (i : Nat) (pins : List (Addr × Obj)) (s : Shared) (σ : St) (H : Hp) (E : Value → Shared → Prop), Inv X pins σ H s → (∀ b ∈ fp, FpOk X pins H b) → tn i s.heap → J.go i H →
    wpAny (model P w) X.A (pyNext (.ref it)) (fun r s1 => ∃ u, r = some u ∧
      wpAny (model P w) X.A (letOwnedTupleGo tg (.ref it) u) (fun _ s2 => ∃ x H', Inv X pins σ H' s2 ∧ RelV x u ∧ J.yld i H x H' ∧ tn (i + 1) s2.heap ∧ ∀ b ∈ fp, H' b = none) E s1) E s
  done : ∀ (X : Cx), X.prog = P → X.w = w → X.K = K → X.calm = true → ∀ (i : Nat) (pins : List (Addr × Obj)) (s : Shared) (σ : St) (H : Hp) (E : Value → Shared → Prop), Inv X pins σ H s → (∀ b ∈ fp, FpOk X pins H b) → tn i s.heap → J.stop i H →
    wpAny (model P w) X.A (pyNext (.ref it)) (fun r s1 => r = none ∧ Inv X pins σ H s1) E s
  self : ∀ (A : Around) (i : Nat) (s : Shared) (Q : Value → Shared → Prop) (E : Value → Shared → Prop), tn i s.heap → Q (.ref it) s → wpAny (model P w) A (pyIter (.ref it)) Q E s
abbrev TI := St → Hp → (It → Hp → Prop) → Prop
def PIE (X : Cx) (pins : List (Addr × Obj)) (σ : St) (tg : Expr) (R : It → Hp → Prop) (itv : Value) (s2 : Shared) : Prop :=
  ∃ (it : Addr) (fp : List Addr) (tn : Nat → Heap → Prop) (J : It) (H' : Hp), itv = .ref it ∧ Inv X pins σ H' s2 ∧ Turn X.prog X.w X.K tg J fp it tn ∧ tn 0 s2.heap ∧ (∀ b ∈ fp, FpOk X pins H' b) ∧ R J H'
def PI (X : Cx) (tg iter : Expr) (wi : TI) : Prop :=
  ∀ (pins : List (Addr × Obj)) (s : Shared) (σ : St) (H : Hp) (R : It → Hp → Prop), Inv X pins σ H s → wi σ H R →
    wpAny (model X.prog X.w) X.A (eval iter X.env) (fun v s1 => wpAny (model X.prog X.w) X.A (pyIter v) (PIE X pins σ tg R) X.xe s1) X.xe s
theorem go_of {M : Model} {A : Around} {E : Value → Shared → Prop} {s : Shared} {tg : Expr} {it : Addr} {u : Value} {o : Obj} {n : String} {vs : Array Value} {Q : Unit → Shared → Prop} (ho : s.heap.get? it = some o) (hc : o.cls = .type n) (hd : o.data = .fields vs)
    (hn : ["enumerate", "zip", "dict_itemiterator", "dict_reverseitemiterator", "odict_iterator", "itertools.zip_longest", "itertools.pairwise"].contains n = false) (hQ : Q () s) : wpAny M A (letOwnedTupleGo tg (.ref it) u) Q E s := by
  unfold letOwnedTupleGo
  cases tg <;> first
    | exact wpAny_pure hQ
    | (cases u <;> first
        | exact wpAny_pure hQ
        | (refine wpAny_bind (wpAny_load ho ?_)
           rw [hc, hd]
           show wpAny M A (if (["enumerate", "zip", "dict_itemiterator", "dict_reverseitemiterator", "odict_iterator", "itertools.zip_longest", "itertools.pairwise"].contains n && vs[0]? == some (rawInt _)) = true then _ else _) Q E s
           rw [if_neg (by intro h; rw [hn, Bool.false_and] at h; cases h)]
           exact wpAny_pure hQ))
def Itl (K : PySem.W.Frag) (a : Addr) : It :=
  ⟨fun i H => ∃ xs x, SqL K H a xs ∧ xs[i]? = some x, fun i H x H' => H' = H ∧ ∀ xs, SqL K H a xs → xs[i]? = some x, fun i H => ∃ xs, SqL K H a xs ∧ xs.length ≤ i⟩
def Itr (lo : Int) (n : Nat) : It := ⟨fun i _ => i < n, fun i H x H' => H' = H ∧ x = .int (lo + i), fun i _ => n ≤ i⟩
theorem turn_list {P : Program} {w : World} {K : PySem.W.Frag} {tg : Expr} (a it : Addr) : Turn P w K tg (Itl K a) [it] it (fun i h => h.IsListIter it a i) where
  mem := by simp
  obj := fun i h st b hb => by
    have e : b = it := by simpa using hb
    subst e
    obtain ⟨o, e, c, d⟩ := st
    exact ⟨o, e, fun v z => by rw [d] at z; cases z⟩
  keep := fun i h h' st k => st.at fun o e => k it (by simp) o e
  item := by
    intro X hP hw hK hc i pins s σ H E I hf st hg
    subst hP hw hK
    obtain ⟨xs, x, hq, hx⟩ := hg
    obtain ⟨its, rv, p, hz⟩ := I.list hq
    obtain ⟨u, hu, ru⟩ := rv.get hx
    obtain ⟨f0, f1, f2, f3, f4, f5⟩ := hf it (by simp)
    refine wpAny_pyNext_list_item st p.isList (x := u) (by simpa using hu) fun h' st' sb => ?_
    have I1 : Inv X pins σ H { s with heap := h' } := I.turned (t' := s.toks) (fun b o hb e => (sb.2 b hb).trans e) f0 f1 f3 f4 f5
    obtain ⟨o, e, c, d⟩ := id st'
    exact ⟨u, rfl, go_of (s := { s with heap := h' }) e c d (by decide) ⟨x, H, I1, ru, ⟨rfl, fun ys hy => by rw [I.list_inj hy hq]; exact hx⟩, st', fun b hb => (hf b hb).1⟩⟩
  done := by
    intro X hP hw hK hc i pins s σ H E I hf st hg
    subst hP hw hK
    obtain ⟨xs, hq, hx⟩ := hg
    obtain ⟨its, rv, p, hz⟩ := I.list hq
    obtain ⟨f0, f1, f2, f3, f4, f5⟩ := hf it (by simp)
    have hl := rv.length
    exact wpAny_pyNext_list_end (I.ok.hd hc) st p.isList (by simp; omega) fun h' eb => ⟨rfl, I.turned (t' := s.toks) (fun b o hb e => eb b o hb e) f0 f1 f3 f4 f5⟩
  self := fun _ _ _ _ _ st h => wpAny_pyIter_listiter st h
theorem turn_range {P : Program} {w : World} {K : PySem.W.Frag} {tg : Expr} (it : Addr) (lo : Int) (n : Nat) : Turn P w K tg (Itr lo n) [it] it (fun i h => IsRangeIter h it (lo + (i : Nat) * 1) ((n : Int) - (i : Nat)) 1) where
  mem := by simp
  obj := fun i h st b hb => by
    have e : b = it := by simpa using hb
    subst e
    exact ⟨_, st, fun v z => by
      have z' : Data.fields _ = Data.cell v := z
      cases z'⟩
  keep := fun i h h' st k => k it (by simp) _ st
  item := by
    intro X hP hw hK hc i pins s σ H E I hf st hg
    subst hP hw hK
    obtain ⟨f0, f1, f2, f3, f4, f5⟩ := hf it (by simp)
    have W := Walks.range (prog := X.prog) (w := X.w) (I.ok.hd hc) it lo 1 n
    refine W.item i s _ _ hg st fun v h' tk hv st' kk => ?_
    obtain ⟨t, rfl⟩ := hv
    have I1 : Inv X pins σ H { s with heap := h', toks := tk } := I.turned (fun b o hb e => kk b o (by simpa using hb) e) f0 f1 f3 f4 f5
    refine ⟨_, rfl, go_of (s := { s with heap := h', toks := tk }) (n := "range_iterator") st' rfl rfl (by decide) ⟨.int (lo + i), H, I1, ⟨t, ?_⟩, ⟨rfl, rfl⟩, st', fun b hb => (hf b hb).1⟩⟩
    rw [Int.mul_one]
  done := by
    intro X hP hw hK hc i pins s σ H E I hf st hg
    subst hP hw hK
    obtain ⟨f0, f1, f2, f3, f4, f5⟩ := hf it (by simp)
    exact wpAny_pyNext_range_end (I.ok.hd hc) st (by have : n ≤ i := hg; omega) fun h' eb => ⟨rfl, I.turned (t' := s.toks) (fun b o hb e => eb b o hb e) f0 f1 f3 f4 f5⟩
  self := fun _ _ _ _ _ st h => wpAny_pyIter_rangeiter st h
end L2
namespace L2
open PySem PySem.Spec PyProof.Rows
section
variable {X : Cx} {tg : Expr}
def iList (K : PySem.W.Frag) (tl : TE) : TI := fun σ H R => tl σ H fun x H1 => ∃ a, x = .ref a ∧ (∃ xs, SqL K H1 a xs) ∧ R (Itl K a) H1
theorem pi_list {l : Expr} {tl : TE} (hl : PE X l tl) : PI X tg l (iList X.K tl) := by
  intro pins s σ H R I h
  refine thn (hl pins s σ H _ I h) fun v s1 ⟨x, H1, I1, r1, q1⟩ => ?_
  obtain ⟨a, e, ⟨xs, hq⟩, q⟩ := q1
  subst e
  cases r1
  obtain ⟨its, rv, p, hz⟩ := I1.list hq
  refine wpAny_pyIter_list p.isList ?_
  refine ⟨s1.heap.objs.size, [s1.heap.objs.size], _, _, H1, rfl, I1.kept (t' := s1.toks) fun b o e => Heap.get?_push_of_some _ e, turn_list a _, ⟨_, Heap.get?_push_size _ rfl, rfl, rfl⟩, fun b hb => ?_, q⟩
  have e : b = s1.heap.objs.size := by simpa using hb
  subst e
  exact I1.fpOk (Nat.le_refl _) (I1.hok.fresh (Nat.le_refl _))
theorem range_it {pins : List (Addr × Obj)} {σ : St} {H : Hp} {s : Shared} {R : It → Hp → Prop} {E : Value → Shared → Prop} {lo hi : Int} {t u v : Tok} {tk : Nat} (I : Inv X pins σ H s) (h1 : -(2 ^ 62) ≤ lo) (h2 : lo < 2 ^ 62) (h3 : -(2 ^ 62) ≤ hi) (h4 : hi < 2 ^ 62)
    (q : R (Itr lo (hi - lo).toNat) H) : wpAny (model X.prog X.w) X.A (pyIter (.ref s.heap.objs.size)) (PIE X pins σ tg R) E { s with heap := s.heap.push { cls := .type "range", data := .fields #[.int lo t, .int hi u, .int 1 v] }, toks := tk } := by
  refine wpAny_pyIter_range (IsRange.new ..) (small_one h1 h2 h3 h4) ?_
  have I1 : Inv X pins σ H { s with heap := s.heap.push { cls := .type "range", data := .fields #[.int lo t, .int hi u, .int 1 v] }, toks := tk } := I.kept fun b o e => Heap.get?_push_of_some _ e
  refine ⟨(s.heap.push { cls := .type "range", data := .fields #[.int lo t, .int hi u, .int 1 v] }).objs.size, [(s.heap.push { cls := .type "range", data := .fields #[.int lo t, .int hi u, .int 1 v] }).objs.size], _, _, H, rfl,
    I1.kept (t' := tk) fun b o e => Heap.get?_push_of_some _ e, turn_range _ lo (hi - lo).toNat, ?_, fun b hb => ?_, q⟩
  · have e1 : lo + ((0 : Nat) : Int) * 1 = lo := by simp
    have e2 : (((hi - lo).toNat : Nat) : Int) - ((0 : Nat) : Int) = Builtin.Range.rangeSize lo hi 1 := by rw [rangeSize_one]; split <;> omega
    show IsRangeIter _ _ (lo + ((0 : Nat) : Int) * 1) ((((hi - lo).toNat : Nat) : Int) - ((0 : Nat) : Int)) 1
    rw [e1, e2]
    exact Heap.get?_push_size _ rfl
  · have e : b = (s.heap.push { cls := .type "range", data := .fields #[.int lo t, .int hi u, .int 1 v] }).objs.size := by simpa using hb
    subst e
    exact I1.fpOk (Nat.le_refl _) (I1.hok.fresh (Nat.le_refl _))
def iRng1 (ta : TA) : TI := fun σ H R => ta σ H fun vs H1 => ∃ j : Int, vs = [.int j] ∧ -(2 ^ 62) ≤ j ∧ j < 2 ^ 62 ∧ R (Itr 0 j.toNat) H1
def iRng2 (ta : TA) : TI := fun σ H R => ta σ H fun vs H1 => ∃ i j : Int, vs = [.int i, .int j] ∧ (-(2 ^ 62) ≤ i ∧ i < 2 ^ 62 ∧ -(2 ^ 62) ≤ j ∧ j < 2 ^ 62) ∧ R (Itr i (j - i).toNat) H1
theorem pi_range1 {a : Expr} {ta : TA} {p pos : Pos} (hg : Gl X "range") (hm : X.mg "range" = none) (ha : PA X [a] ta) (hs : starEach [a] X.env = [(false, eval a X.env)] := by rfl) : PI X tg (.Call (.Name "range" p) [a] [] pos) (iRng1 ta) := by
  intro pins s σ H R I h
  refine Call_ (ld_blt I hg hm boot_range (PyProof.Rows.callWith_type1 (thn (ha pos pins s σ H _ I h) fun us s1 ⟨vs, H1, I1, r1, q1⟩ => ?_) hs rfl))
  obtain ⟨j, e, q1, q2, q⟩ := q1
  subst e
  cases r1 with
  | cons r rr =>
    cases rr
    obtain ⟨t, rfl⟩ := r
    exact call_range_1 (range_it I1 (by omega) (by omega) q1 q2 (by simpa using q))
theorem pi_range2 {a b : Expr} {ta : TA} {p pos : Pos} (hg : Gl X "range") (hm : X.mg "range" = none) (ha : PA X [a, b] ta) (hs : starEach [a, b] X.env = [(false, eval a X.env), (false, eval b X.env)] := by rfl) (hs2 : starEach [b] X.env = [(false, eval b X.env)] := by rfl) :
    PI X tg (.Call (.Name "range" p) [a, b] [] pos) (iRng2 ta) := by
  intro pins s σ H R I h
  refine Call_ (ld_blt I hg hm boot_range (PyProof.Rows.callWith_type1 (thn (ha pos pins s σ H _ I h) fun us s1 ⟨vs, H1, I1, r1, q1⟩ => ?_) (by rw [hs, hs2]) (by rw [hs2]; rfl)))
  obtain ⟨i, j, e, ⟨q1, q2, q3, q4⟩, q⟩ := q1
  subst e
  cases r1 with
  | cons r rr =>
    cases rr with
    | cons r' rr =>
      cases rr
      obtain ⟨t, rfl⟩ := r
      obtain ⟨t', rfl⟩ := r'
      exact call_range_2 (range_it I1 q1 q2 q3 q4 q)
def tFor (wi : TI) (g : TG) (tb : TS) : TS := fun D σ H => wi σ H fun J H1 => ∃ W : Nat → Nat → St → Hp → Prop, (∃ m, W 0 m σ H1) ∧ ∀ i m σ H, W i m σ H →
  (J.stop i H ∧ D.nx σ H) ∨ (J.go i H ∧ ∃ N : St → Hp → Prop, (∀ σ' H', N σ' H' → ∃ m', m' < m ∧ W (i + 1) m' σ' H') ∧ ∀ x H', J.yld i H x H' → g x σ H' fun σ2 H2 => tb { D with nx := N, ct := N, bk := D.nx } σ2 H2)
def pinsAt (fp : List Addr) (h : Heap) : List (Addr × Obj) := fp.filterMap fun b => (h.get? b).map fun o => (b, o)
theorem mem_pinsAt {fp : List Addr} {h : Heap} {b : Addr} {o : Obj} (hb : b ∈ fp) (e : h.get? b = some o) : (b, o) ∈ pinsAt fp h := List.mem_filterMap.mpr ⟨b, hb, by rw [e]; rfl⟩
theorem of_pinsAt {fp : List Addr} {h : Heap} {p : Addr × Obj} (hp : p ∈ pinsAt fp h) : p.1 ∈ fp ∧ h.get? p.1 = some p.2 := by
  obtain ⟨b, hb, e⟩ := List.mem_filterMap.mp hp
  cases q : h.get? b with
  | none => rw [q] at e; cases e
  | some o =>
    rw [q] at e
    have e' : (b, o) = p := Option.some.inj e
    subst e'
    exact ⟨hb, q⟩
theorem Inv.pinned {pins : List (Addr × Obj)} {σ : St} {H : Hp} {s : Shared} {fp : List Addr} (I : Inv X pins σ H s) (hf : ∀ b ∈ fp, FpOk X pins H b) (ho : ∀ b ∈ fp, ∃ o, s.heap.get? b = some o ∧ ∀ v, o.data ≠ .cell v) : Inv X (pins ++ pinsAt fp s.heap) σ H s :=
  I.pins_of fun p hp => (List.mem_append.mp hp).elim (fun z => I.pin p (List.mem_append_right _ z)) fun z => by
    obtain ⟨hb, e⟩ := of_pinsAt z
    obtain ⟨f0, f1, f2, _⟩ := hf p.1 hb
    obtain ⟨o, e', d⟩ := ho p.1 hb
    rw [e] at e'; cases e'
    exact ⟨e, f0, f1, f2, d⟩
theorem Inv.unpinned {pins pl : List (Addr × Obj)} {σ : St} {H : Hp} {s : Shared} (I : Inv X (pins ++ pl) σ H s) : Inv X pins σ H s := I.pins_of fun p hp => I.pin p (List.mem_append_right _ (List.mem_append_left _ hp))
theorem ps_for {iter : Expr} {body : List Stmt} {wi : TI} {g : TG} {tb : TS} {pos : Pos} (hp : PassesOwn (model X.prog X.w) X.A X.env X.xe) (hc : X.calm = true) (hi : PI X tg iter wi) (hg : PG X tg g) (hb : PSs X body tb)
    (hs : ∀ x, foldedSetIterable iter X.env x = pure x := by intro _; rfl) : PS X (.For tg iter body [] pos) (tFor wi g tb) := by
  intro pins s σ H D I h
  refine wpAny_For (thn (hi pins s σ H _ I h) fun v s1 h1 => thn h1 fun itv s2 h2 => ?_) hs
  obtain ⟨it, fp, tn, J, H2, e, I2, T, st2, f2, W, ⟨m0, w0⟩, turn⟩ := h2
  subst e
  -- what stays true of the iterator's objects through the loop
  have stat : ∀ {H' : Hp}, (∀ b ∈ fp, H' b = none) → ∀ b ∈ fp, FpOk X pins H' b := fun hn b hb => ⟨hn b hb, (f2 b hb).2⟩
  refine codeAny_forLoop_any (fun n s' => ∃ i σ' H', Inv X pins σ' H' s' ∧ tn i s'.heap ∧ (∀ b ∈ fp, H' b = none) ∧ W i n σ' H') ?_ m0 ⟨0, σ, H2, I2, st2, fun b hb => (f2 b hb).1, w0⟩
  rintro n s3 ⟨i, σ3, H3, I3, st3, fr3, w3⟩
  rcases turn i n σ3 H3 w3 with ⟨stop, qn⟩ | ⟨go, N, hN, step⟩
  · refine wpAny_passesOwn hp (thn (T.done X rfl rfl rfl hc i pins s3 σ3 H3 X.xe I3 (stat fr3) st3 stop) fun r s4 ⟨hr, I4⟩ => ?_)
    subst hr
    exact wpAny_execs_nil ⟨σ3, H3, I4, qn⟩
  · refine wpAny_passesOwn hp (thn (T.item X rfl rfl rfl hc i pins s3 σ3 H3 X.xe I3 (stat fr3) st3 go) fun r s4 ⟨u, hr, h4⟩ => ?_)
    subst hr
    refine wpAny_passesOwn hp (thn h4 fun _ s5 ⟨x, H5, I5, r5, y5, st5, fr5⟩ => ?_)
    have I5' := I5.pinned (stat fr5) (T.obj _ _ st5)
    refine wpAny_passesOwn hp (thn (hg _ s5 σ3 H5 x u _ I5' r5 (step x H5 y5)) fun _ s6 ⟨σ6, H6, I6, q6⟩ => ?_)
    refine wpAny_passesOwn hp (thn (hb _ s6 σ6 H6 _ I6 q6) fun f s7 q7 => ?_)
    have again : ∀ {σ7 : St} {H7 : Hp}, Inv X (pins ++ pinsAt fp s5.heap) σ7 H7 s7 → N σ7 H7 → ∃ m, m < n ∧ ∃ i σ' H', Inv X pins σ' H' s7 ∧ tn i s7.heap ∧ (∀ b ∈ fp, H' b = none) ∧ W i m σ' H' := fun {σ7 H7} I7 n7 => by
      obtain ⟨m', hm, w7⟩ := hN σ7 H7 n7
      refine ⟨m', hm, i + 1, σ7, H7, I7.unpinned, T.keep _ _ _ st5 fun b hb o e => (I7.pin (b, o) (List.mem_append_right _ (List.mem_append_right _ (mem_pinsAt hb e)))).1, fun b hb => ?_, w7⟩
      obtain ⟨o, e, d⟩ := T.obj _ _ st5 b hb
      exact (I7.pin (b, o) (List.mem_append_right _ (List.mem_append_right _ (mem_pinsAt hb e)))).2.1
    cases f with
    | next => obtain ⟨σ7, H7, I7, n7⟩ := q7; exact again I7 n7
    | cont => obtain ⟨σ7, H7, I7, n7⟩ := q7; exact again I7 n7
    | brk => obtain ⟨σ7, H7, I7, q7⟩ := q7; exact ⟨σ7, H7, I7.unpinned, q7⟩
    | ret v => obtain ⟨x7, σ7, H7, I7, r7, q7⟩ := q7; exact ⟨x7, σ7, H7, I7.unpinned, r7, q7⟩
end
theorem for_list {K : PySem.W.Frag} {a : Addr} {xs : List V} {g : TG} {tb : TS} {D : Ends} {σ : St} {H : Hp} (Pv : Nat → St → Hp → Prop) (h0 : Pv 0 σ H) (hl : ∀ i σ H, i ≤ xs.length → Pv i σ H → SqL K H a xs)
    (hs : ∀ i x σ H, xs[i]? = some x → Pv i σ H → g x σ H fun σ2 H2 => tb { D with nx := Pv (i + 1), ct := Pv (i + 1), bk := D.nx } σ2 H2) (hd : ∀ σ H, Pv xs.length σ H → D.nx σ H) :
    ∃ W : Nat → Nat → St → Hp → Prop, (∃ m, W 0 m σ H) ∧ ∀ i m σ H, W i m σ H →
      ((Itl K a).stop i H ∧ D.nx σ H) ∨ ((Itl K a).go i H ∧ ∃ N : St → Hp → Prop, (∀ σ' H', N σ' H' → ∃ m', m' < m ∧ W (i + 1) m' σ' H') ∧ ∀ x H', (Itl K a).yld i H x H' → g x σ H' fun σ2 H2 => tb { D with nx := N, ct := N, bk := D.nx } σ2 H2) := by
  refine ⟨fun i m σ H => m = xs.length - i ∧ i ≤ xs.length ∧ Pv i σ H, ⟨xs.length, by simp, Nat.zero_le _, h0⟩, ?_⟩
  rintro i m σ H ⟨rfl, hi, p⟩
  have q := hl i σ H hi p
  by_cases hlt : i < xs.length
  · refine .inr ⟨⟨xs, xs[i], q, by simp [hlt]⟩, Pv (i + 1), fun σ' H' p' => ⟨xs.length - (i + 1), by omega, rfl, hlt, p'⟩, fun x H' y => ?_⟩
    obtain ⟨e, y⟩ := y
    subst e
    exact hs i x σ _ (y xs q) p
  · have e : i = xs.length := by omega
    subst e
    exact .inl ⟨⟨xs, q, Nat.le_refl _⟩, hd σ H p⟩
theorem for_range {lo : Int} {n : Nat} {g : TG} {tb : TS} {D : Ends} {σ : St} {H : Hp} (Pv : Nat → St → Hp → Prop) (h0 : Pv 0 σ H)
    (hs : ∀ i σ H, i < n → Pv i σ H → g (.int (lo + i)) σ H fun σ2 H2 => tb { D with nx := Pv (i + 1), ct := Pv (i + 1), bk := D.nx } σ2 H2) (hd : ∀ σ H, Pv n σ H → D.nx σ H) :
    ∃ W : Nat → Nat → St → Hp → Prop, (∃ m, W 0 m σ H) ∧ ∀ i m σ H, W i m σ H →
      ((Itr lo n).stop i H ∧ D.nx σ H) ∨ ((Itr lo n).go i H ∧ ∃ N : St → Hp → Prop, (∀ σ' H', N σ' H' → ∃ m', m' < m ∧ W (i + 1) m' σ' H') ∧ ∀ x H', (Itr lo n).yld i H x H' → g x σ H' fun σ2 H2 => tb { D with nx := N, ct := N, bk := D.nx } σ2 H2) := by
  refine ⟨fun i m σ H => m = n - i ∧ i ≤ n ∧ Pv i σ H, ⟨n, by simp, Nat.zero_le _, h0⟩, ?_⟩
  rintro i m σ H ⟨rfl, hi, p⟩
  by_cases hlt : i < n
  · refine .inr ⟨hlt, Pv (i + 1), fun σ' H' p' => ⟨n - (i + 1), by omega, rfl, hlt, p'⟩, fun x H' y => ?_⟩
    obtain ⟨e, y⟩ := y
    subst e y
    exact hs i σ _ hlt p
  · have e : i = n := by omega
    subst e
    exact .inl ⟨Nat.le_refl _, hd σ H p⟩
theorem while_by {c : TT} {tb : TS} {D : Ends} {σ : St} {H : Hp} (Pv : St → Hp → Prop) (μ : St → Hp → Nat) (h0 : Pv σ H)
    (hs : ∀ σ H, Pv σ H → c σ H fun b H1 => if b = true then tb { D with nx := fun σ' H' => Pv σ' H' ∧ μ σ' H' < μ σ H, ct := fun σ' H' => Pv σ' H' ∧ μ σ' H' < μ σ H, bk := D.nx } σ H1 else D.nx σ H1)
    (mono : ∀ σ H Q Q', (∀ b H1, Q b H1 → Q' b H1) → c σ H Q → c σ H Q') : tWhile c tb D σ H := by
  refine ⟨fun m σ H => m = μ σ H ∧ Pv σ H, ⟨_, rfl, h0⟩, ?_⟩
  rintro m σ H ⟨rfl, p⟩
  refine mono σ H _ _ (fun b H1 q => ?_) (hs σ H p)
  cases b with
  | true => exact ⟨_, fun σ' H' ⟨p', l⟩ => ⟨_, l, rfl, p'⟩, q⟩
  | false => exact q
end L2
namespace L2
open PySem PySem.Spec PyProof.Rows
abbrev R2 := V → V → Hp → VK → Prop
def OpR (X : Cx) (f : Value → Value → Sem Value) (r : R2) : Prop :=
  ∀ (pins : List (Addr × Obj)) (s : Shared) (σ : St) (H : Hp) (x y : V) (v u : Value) (Q : VK), Inv X pins σ H s → RelV x v → RelV y u → r x y H Q →
    wpAny (model X.prog X.w) X.A (f v u) (EP X pins σ Q) X.xe s
def UnR (X : Cx) (f : Value → Sem Value) (r : V → Hp → VK → Prop) : Prop :=
  ∀ (pins : List (Addr × Obj)) (s : Shared) (σ : St) (H : Hp) (x : V) (v : Value) (Q : VK), Inv X pins σ H s → RelV x v → r x H Q →
    wpAny (model X.prog X.w) X.A (f v) (EP X pins σ Q) X.xe s
def CallR (X : Cx) (f : Value) (r : List V → Hp → VK → Prop) : Prop :=
  ∀ (pins : List (Addr × Obj)) (s : Shared) (σ : St) (H : Hp) (xs : List V) (us : List Value) (Q : VK), Inv X pins σ H s → Vals xs us → r xs H Q →
    wpAny (model X.prog X.w) X.A (call f us) (EP X pins σ Q) X.xe s
def tOp (r : R2) (ta tb : TE) : TE := fun σ H Q => ta σ H fun x H1 => tb σ H1 fun y H2 => r x y H2 Q
def tUn (r : V → Hp → VK → Prop) (ta : TE) : TE := fun σ H Q => ta σ H fun x H1 => r x H1 Q
def rI (C : Int → Int → Prop) (g : Int → Int → V) : R2 := fun x y H Q => ∃ i j, x = .int i ∧ y = .int j ∧ C i j ∧ Q (g i j) H
def rI0 (g : Int → Int → V) : R2 := fun x y H Q => ∃ i j, x = .int i ∧ y = .int j ∧ Q (g i j) H
def rU (g : Int → V) : V → Hp → VK → Prop := fun x H Q => ∃ i, x = .int i ∧ Q (g i) H
section
variable {X : Cx} {a b c : Expr} {ta tb tc : TE} {pos : Pos}
theorem binT (ha : PE X a ta) (hb : PE X b tb) {pins : List (Addr × Obj)} {s : Shared} {σ : St} {H : Hp} {R : V → V → Hp → Prop} (I : Inv X pins σ H s)
    (h : ta σ H fun x H1 => tb σ H1 fun y H2 => R x y H2) {Q : Value → Shared → Prop} {f : Value → Value → Sem Value}
    (hf : ∀ v u s2 x y H2, Inv X pins σ H2 s2 → RelV x v → RelV y u → R x y H2 → wpAny (model X.prog X.w) X.A (f v u) Q X.xe s2) :
    wpAny (model X.prog X.w) X.A (eval a X.env) (fun v s₁ => wpAny (model X.prog X.w) X.A (eval b X.env) (fun u s₂ => wpAny (model X.prog X.w) X.A (f v u) Q X.xe s₂) X.xe s₁) X.xe s := by
  refine thn (ha pins s σ H _ I h) fun v s1 ⟨x, H1, I1, r1, q1⟩ => ?_
  refine thn (hb pins s1 σ H1 _ I1 q1) fun u s2 ⟨y, H2, I2, r2, q2⟩ => ?_
  exact hf v u s2 x y H2 I2 r1 r2 q2
theorem pe_op {op : Operator} {r : R2} (ho : OpR X (binaryOp op) r) (ha : PE X a ta) (hb : PE X b tb) : PE X (.BinOp a op b pos) (tOp r ta tb) := by
  intro pins s σ H Q I h
  exact wpAny_BinOp (binT ha hb I h fun v u s2 x y H2 I2 rx ry q => ho pins s2 σ H2 x y v u Q I2 rx ry q)
theorem pe_un {op : UnaryOp} {r : V → Hp → VK → Prop} (ho : UnR X (unaryOp op) r) (ha : PE X a ta) : PE X (.UnaryOp op a pos) (tUn r ta) := by
  intro pins s σ H Q I h
  exact UnaryOp_ (thn (ha pins s σ H _ I h) fun v s1 ⟨x, H1, I1, r1, q1⟩ => ho pins s1 σ H1 x v Q I1 r1 q1)
theorem opI {f : Value → Value → Sem Value} {C : Int → Int → Prop} {g : Int → Int → Int}
    (rule : ∀ (i j : Int) (t u : Tok) (s : Shared) (Q : Value → Shared → Prop) (E : Value → Shared → Prop), C i j → Q (.int (g i j) s.toks) { s with toks := s.toks + 1 } → wpAny (model X.prog X.w) X.A (f (.int i t) (.int j u)) Q E s) :
    OpR X f (rI C fun i j => .int (g i j)) := by
  intro pins s σ H x y v u Q I rx ry h
  obtain ⟨i, j, rfl, rfl, hc, q⟩ := h
  obtain ⟨t, rfl⟩ := rx
  obtain ⟨t', rfl⟩ := ry
  exact rule i j t t' s _ _ hc ⟨.int (g i j), H, I.tok _, ⟨_, rfl⟩, q⟩
theorem opI0 {f : Value → Value → Sem Value} {g : Int → Int → Int}
    (rule : ∀ (i j : Int) (t u : Tok) (s : Shared) (Q : Value → Shared → Prop) (E : Value → Shared → Prop), Q (.int (g i j) s.toks) { s with toks := s.toks + 1 } → wpAny (model X.prog X.w) X.A (f (.int i t) (.int j u)) Q E s) :
    OpR X f (rI0 fun i j => .int (g i j)) := by
  intro pins s σ H x y v u Q I rx ry h
  obtain ⟨i, j, rfl, rfl, q⟩ := h
  obtain ⟨t, rfl⟩ := rx
  obtain ⟨t', rfl⟩ := ry
  exact rule i j t t' s _ _ ⟨.int (g i j), H, I.tok _, ⟨_, rfl⟩, q⟩
theorem opB0 {f : Value → Value → Sem Value} {g : Int → Int → Bool}
    (rule : ∀ (i j : Int) (t u : Tok) (s : Shared) (Q : Value → Shared → Prop) (E : Value → Shared → Prop), Q (.bool (g i j)) s → wpAny (model X.prog X.w) X.A (f (.int i t) (.int j u)) Q E s) :
    OpR X f (rI0 fun i j => .bl (g i j)) := by
  intro pins s σ H x y v u Q I rx ry h
  obtain ⟨i, j, rfl, rfl, q⟩ := h
  obtain ⟨t, rfl⟩ := rx
  obtain ⟨t', rfl⟩ := ry
  exact rule i j t t' s _ _ ⟨.bl (g i j), H, I, rfl, q⟩
def CMul (i j : Int) : Prop := (-(2 ^ 64) < i ∧ i < 2 ^ 64) ∨ (-(2 ^ 64) < j ∧ j < 2 ^ 64)
theorem CMul.ok {i j : Int} (h : CMul i j) : IntMulOk i j := by
  rcases h with ⟨h1, h2⟩ | ⟨h1, h2⟩
  · exact .of_left (intBits_le_64 h1 h2)
  · exact .of_right (intBits_le_64 h1 h2)
theorem op_add : OpR X (binaryOp .Add) (rI0 fun i j => .int (i + j)) := opI0 fun _ _ _ _ _ _ _ q => add_int q
theorem op_sub : OpR X (binaryOp .Sub) (rI0 fun i j => .int (i - j)) := opI0 fun _ _ _ _ _ _ _ q => sub_int q
theorem op_mul : OpR X (binaryOp .Mult) (rI CMul fun i j => .int (i * j)) := opI fun _ _ _ _ _ _ _ hc q => mul_int q hc.ok
theorem op_mod : OpR X (binaryOp .Mod) (rI (fun _ j => 0 < j) fun i j => .int (i % j)) := opI fun i j _ _ _ _ _ hc q => by
  have h1 : (0 : Int) < j := hc
  exact mod_int' (by omega) (by rw [Int.fmod_eq_emod_of_nonneg i (by omega)]; exact q)
theorem unI {f : Value → Sem Value} {g : Int → Int}
    (rule : ∀ (i : Int) (t : Tok) (s : Shared) (Q : Value → Shared → Prop) (E : Value → Shared → Prop), Q (.int (g i) s.toks) { s with toks := s.toks + 1 } → wpAny (model X.prog X.w) X.A (f (.int i t)) Q E s) :
    UnR X f (rU fun i => .int (g i)) := by
  intro pins s σ H x v Q I rx h
  obtain ⟨i, rfl, q⟩ := h
  obtain ⟨t, rfl⟩ := rx
  exact rule i t s _ _ ⟨.int (g i), H, I.tok _, ⟨_, rfl⟩, q⟩
theorem un_neg : UnR X (unaryOp .USub) (rU fun i => .int (-i)) := unI fun _ _ _ _ _ q => neg_int q
end
def scal : V → V → Bool
  | .non, .non => true | .non, .int _ => true | .int _, .non => true | .non, .bl _ => true | .bl _, .non => true | .non, .str _ => true | .str _, .non => true
  | .int _, .int _ => true | .bl _, .bl _ => true | .str _, .str _ => true | .byt _, .byt _ => true
  | .int _, .str _ => true | .str _, .int _ => true | .bl _, .str _ => true | .str _, .bl _ => true
  | _, _ => false
def rEq : R2 := fun x y H Q => scal x y = true ∧ Q (.bl (decide (x = y))) H
def rNe : R2 := fun x y H Q => scal x y = true ∧ Q (.bl (!decide (x = y))) H
theorem dec_int {i j : Int} : decide (V.int i = V.int j) = (i == j) := by
  rw [Bool.eq_iff_iff]
  simp
theorem dec_bl {i j : Bool} : decide (V.bl i = V.bl j) = (i == j) := by
  rw [Bool.eq_iff_iff]
  simp
theorem dec_str {i j : Str} : decide (V.str i = V.str j) = (i == j) := by
  rw [Bool.eq_iff_iff]
  simp
theorem dec_byt {i j : Array UInt8} : decide (V.byt i = V.byt j) = (i.toList == j.toList) := by
  rw [Bool.eq_iff_iff]
  cases i
  cases j
  simp
section
variable {X : Cx} {a b c : Expr} {ta tb tc : TE} {pos : Pos}
theorem fin_bl {pins : List (Addr × Obj)} {σ : St} {H : Hp} {s : Shared} {Q : VK} {k k' : Bool} (I : Inv X pins σ H s) (q : Q (.bl k) H) (e : k = k') : EP X pins σ Q (.bool k') s := by
  subst e
  exact ⟨.bl k, H, I, rfl, q⟩
theorem op_eq : OpR X (compareOp .Eq) rEq := by
  intro pins s σ H x y v u Q I rx ry h
  obtain ⟨hs, q⟩ := h
  cases x with
  | non =>
    cases rx
    cases y with
    | non => cases ry; exact PySem.EqNone.eq_none_none (fin_bl I q (by simp))
    | bl j => cases ry; exact PySem.EqNone.eq_none_bool (fin_bl I q (by simp))
    | int j => obtain ⟨t', rfl⟩ := ry; exact PySem.EqNone.eq_none_int (fin_bl I q (by simp))
    | str j => obtain ⟨t', rfl⟩ := ry; exact PySem.EqNone.eq_none_str (fin_bl I q (by simp))
    | _ => exact absurd (show false = true from hs) Bool.false_ne_true
  | bl i =>
    cases rx
    cases y with
    | non => cases ry; exact PySem.EqNone.eq_bool_none (fin_bl I q (by simp))
    | bl j => cases ry; exact eq_bool (fin_bl I q dec_bl)
    | str j => obtain ⟨t', rfl⟩ := ry; exact PySem.EqMixed.eq_bool_str (fin_bl I q (by simp))
    | _ => exact absurd (show false = true from hs) Bool.false_ne_true
  | int i =>
    obtain ⟨t, rfl⟩ := rx
    cases y with
    | non => cases ry; exact PySem.EqNone.eq_int_none (fin_bl I q (by simp))
    | int j => obtain ⟨t', rfl⟩ := ry; exact eq_int (fin_bl I q dec_int)
    | str j => obtain ⟨t', rfl⟩ := ry; exact PySem.EqMixed.eq_int_str (fin_bl I q (by simp))
    | _ => exact absurd (show false = true from hs) Bool.false_ne_true
  | str i =>
    obtain ⟨t, rfl⟩ := rx
    cases y with
    | non => cases ry; exact PySem.EqNone.eq_str_none (fin_bl I q (by simp))
    | bl j => cases ry; exact PySem.EqMixed.eq_str_bool (fin_bl I q (by simp))
    | int j => obtain ⟨t', rfl⟩ := ry; exact PySem.EqMixed.eq_str_int (fin_bl I q (by simp))
    | str j => obtain ⟨t', rfl⟩ := ry; exact eq_str (fin_bl I q dec_str)
    | _ => exact absurd (show false = true from hs) Bool.false_ne_true
  | byt i =>
    obtain ⟨t, rfl⟩ := rx
    cases y with
    | byt j => obtain ⟨t', rfl⟩ := ry; exact PySem.W.eq_bytes (fin_bl I q dec_byt)
    | _ => exact absurd (show false = true from hs) Bool.false_ne_true
  | _ => cases y <;> exact absurd (show false = true from hs) Bool.false_ne_true
theorem op_ne : OpR X (compareOp .NotEq) rNe := by
  intro pins s σ H x y v u Q I rx ry h
  obtain ⟨hs, q⟩ := h
  cases x with
  | non =>
    cases rx
    cases y with
    | non => cases ry; exact PySem.EqNone.ne_none_none (fin_bl I q (by simp))
    | bl j => cases ry; exact PySem.EqNone.ne_none_bool (fin_bl I q (by simp))
    | int j => obtain ⟨t', rfl⟩ := ry; exact PySem.EqNone.ne_none_int (fin_bl I q (by simp))
    | str j => obtain ⟨t', rfl⟩ := ry; exact PySem.EqNone.ne_none_str (fin_bl I q (by simp))
    | _ => exact absurd (show false = true from hs) Bool.false_ne_true
  | bl i =>
    cases rx
    cases y with
    | non => cases ry; exact PySem.EqNone.ne_bool_none (fin_bl I q (by simp))
    | bl j => cases ry; exact ne_bool (fin_bl I q (congrArg not dec_bl))
    | str j => obtain ⟨t', rfl⟩ := ry; exact PySem.EqMixed.ne_bool_str (fin_bl I q (by simp))
    | _ => exact absurd (show false = true from hs) Bool.false_ne_true
  | int i =>
    obtain ⟨t, rfl⟩ := rx
    cases y with
    | non => cases ry; exact PySem.EqNone.ne_int_none (fin_bl I q (by simp))
    | int j => obtain ⟨t', rfl⟩ := ry; exact ne_int (fin_bl I q (congrArg not dec_int))
    | str j => obtain ⟨t', rfl⟩ := ry; exact PySem.EqMixed.ne_int_str (fin_bl I q (by simp))
    | _ => exact absurd (show false = true from hs) Bool.false_ne_true
  | str i =>
    obtain ⟨t, rfl⟩ := rx
    cases y with
    | non => cases ry; exact PySem.EqNone.ne_str_none (fin_bl I q (by simp))
    | bl j => cases ry; exact PySem.EqMixed.ne_str_bool (fin_bl I q (by simp))
    | int j => obtain ⟨t', rfl⟩ := ry; exact PySem.EqMixed.ne_str_int (fin_bl I q (by simp))
    | str j => obtain ⟨t', rfl⟩ := ry; exact ne_str (fin_bl I q (congrArg not dec_str))
    | _ => exact absurd (show false = true from hs) Bool.false_ne_true
  | byt i =>
    obtain ⟨t, rfl⟩ := rx
    cases y with
    | byt j => obtain ⟨t', rfl⟩ := ry; exact PySem.W.ne_bytes (fin_bl I q (congrArg not dec_byt))
    | _ => exact absurd (show false = true from hs) Bool.false_ne_true
  | _ => cases y <;> exact absurd (show false = true from hs) Bool.false_ne_true
theorem op_lt : OpR X (compareOp .Lt) (rI0 fun i j => .bl (decide (i < j))) := opB0 fun _ _ _ _ _ _ _ q => lt_int q
theorem op_le : OpR X (compareOp .LtE) (rI0 fun i j => .bl (decide (i ≤ j))) := opB0 fun _ _ _ _ _ _ _ q => le_int q
theorem op_gt : OpR X (compareOp .Gt) (rI0 fun i j => .bl (decide (j < i))) := opB0 fun _ _ _ _ _ _ _ q => gt_int q
theorem op_ge : OpR X (compareOp .GtE) (rI0 fun i j => .bl (decide (j ≤ i))) := opB0 fun _ _ _ _ _ _ _ q => ge_int q
theorem nomark (b : Expr) {op : CmpOp} (h : op ≠ .In := by decide) (h2 : op ≠ .NotIn := by decide) : behindInMarks op b = false := by
  have e1 : (op == CmpOp.In) = false := by cases op <;> first | rfl | exact absurd rfl h
  have e2 : (op == CmpOp.NotIn) = false := by cases op <;> first | rfl | exact absurd rfl h2
  cases b <;> simp [behindInMarks, e1, e2]
theorem pe_cmpR {op : CmpOp} {r : R2} (ho : OpR X (compareOp op) r) (ha : PE X a ta) (hb : PE X b tb) (hm : behindInMarks op b = false) : PE X (.Compare a [op] [b] pos) (tOp r ta tb) := by
  intro pins s σ H Q I h
  exact wpAny_Compare1 (binT ha hb I h fun v u s2 x y H2 I2 rx ry q => ho pins s2 σ H2 x y v u Q I2 rx ry q) hm
def tTest (t : TE) : TT := fun σ H Q => t σ H fun x H' => ∃ k, x = .bl k ∧ Q k H'
theorem pt_cmpR {op : CmpOp} {r : R2} (ho : OpR X (compareOp op) r) (ha : PE X a ta) (hb : PE X b tb) (hm : behindInMarks op b = false) : PT X (.Compare a [op] [b] pos) (tTest (tOp r ta tb)) := by
  intro pins s σ H Q I h
  refine wpAny_isTrue_Compare1 (thn (ha pins s σ H _ I h) fun v s1 ⟨x, H1, I1, r1, q1⟩ => thn (hb pins s1 σ H1 _ I1 q1) fun u s2 ⟨y, H2, I2, r2, q2⟩ =>
    thn (ho pins s2 σ H2 x y v u _ I2 r1 r2 q2) fun c s3 ⟨z, H3, I3, r3, k, e, q3⟩ => ?_) hm
  subst e
  cases r3
  exact wpAny_truthy_bool ⟨H3, I3, q3⟩
def tChain (r r' : R2) (ta tb tc : TE) : TE := fun σ H Q => ta σ H fun x H1 => tb σ H1 fun y H2 => r x y H2 fun z H3 => ∃ k, z = .bl k ∧
  (if k = true then tc σ H3 fun w' H4 => r' y w' H4 Q else Q (.bl false) H3)
theorem pe_chain {op op' : CmpOp} {r r' : R2} (ho : OpR X (compareOp op) r) (ho' : OpR X (compareOp op') r') (ha : PE X a ta) (hb : PE X b tb) (hc : PE X c tc)
    (hm : lastMarks [op, op'] [b, c] = false := by with_unfolding_all rfl) : PE X (.Compare a [op, op'] [b, c] pos) (tChain r r' ta tb tc) := by
  intro pins s σ H Q I h
  refine Compare_chain (thn (ha pins s σ H _ I h) fun v s1 ⟨x, H1, I1, r1, q1⟩ => chain_link (thn (hb pins s1 σ H1 _ I1 q1) fun u s2 ⟨y, H2, I2, r2, q2⟩ =>
    thn (ho pins s2 σ H2 x y v u _ I2 r1 r2 q2) fun d s3 ⟨z, H3, I3, r3, k, e, q3⟩ => ?_)) hm
  subst e
  cases r3
  refine wpAny_truthy_bool ?_
  cases k with
  | false => exact ite_ff ⟨.bl false, H3, I3, rfl, q3⟩
  | true => exact ite_tt (chain_last (thn (hc pins s3 σ H3 _ I3 q3) fun w' s4 ⟨z', H4, I4, r4, q4⟩ => ho' pins s4 σ H4 y z' u w' Q I4 r2 r4 q4))
theorem pt_chain {op op' : CmpOp} {r r' : R2} (ho : OpR X (compareOp op) r) (ho' : OpR X (compareOp op') r') (ha : PE X a ta) (hb : PE X b tb) (hc : PE X c tc)
    (hm : lastMarks [op, op'] [b, c] = false := by with_unfolding_all rfl) : PT X (.Compare a [op, op'] [b, c] pos) (tTest (tChain r r' ta tb tc)) := by
  intro pins s σ H Q I h
  refine isTrue_chain (thn (ha pins s σ H _ I h) fun v s1 ⟨x, H1, I1, r1, q1⟩ => test_link (thn (hb pins s1 σ H1 _ I1 q1) fun u s2 ⟨y, H2, I2, r2, q2⟩ =>
    thn (ho pins s2 σ H2 x y v u _ I2 r1 r2 q2) fun d s3 ⟨z, H3, I3, r3, k, e, q3⟩ => ?_)) hm
  subst e
  cases r3
  refine wpAny_truthy_bool ?_
  cases k with
  | false =>
    obtain ⟨k', e', q'⟩ := q3
    cases e'
    exact ite_ff ⟨H3, I3, q'⟩
  | true =>
    refine ite_tt (test_last (thn (hc pins s3 σ H3 _ I3 q3) fun w' s4 ⟨z', H4, I4, r4, q4⟩ => thn (ho' pins s4 σ H4 y z' u w' _ I4 r2 r4 q4) fun d' s5 ⟨z2, H5, I5, r5, k2, e2, q5⟩ => ?_))
    subst e2
    cases r5
    exact wpAny_truthy_bool ⟨H5, I5, q5⟩
theorem line63 : (sizeLine : Nat) < 2 ^ 63 := by rw [sizeLine_eq]; decide
theorem vals1 {x : V} {us : List Value} (r : Vals [x] us) : ∃ u, us = [u] ∧ RelV x u := by
  cases r with
  | cons r1 r2 => cases r2; exact ⟨_, rfl, r1⟩
theorem vals2 {x y : V} {us : List Value} (r : Vals [x, y] us) : ∃ u w', us = [u, w'] ∧ RelV x u ∧ RelV y w' := by
  cases r with
  | cons r1 r2 =>
    cases r2 with
    | cons r3 r4 => cases r4; exact ⟨_, _, rfl, r1, r3⟩
theorem call_max2 (hc : X.calm = true) : CallR X (.builtin "max") (fun xs H Q => ∃ i j, xs = [.int i, .int j] ∧ Q (.int (if j > i then j else i)) H) := by
  intro pins s σ H xs us Q I r h
  obtain ⟨i, j, rfl, q⟩ := h
  obtain ⟨u, w', rfl, ⟨t, rfl⟩, ⟨t', rfl⟩⟩ := vals2 r
  refine max_two_ints (I.ok.hd hc) fun h' tk k => ⟨_, H, I.kept k, ?_, q⟩
  by_cases hj : j > i
  · rw [if_pos hj, if_pos hj]; exact ⟨_, rfl⟩
  · rw [if_neg hj, if_neg hj]; exact ⟨_, rfl⟩
theorem call_min2 (hc : X.calm = true) : CallR X (.builtin "min") (fun xs H Q => ∃ i j, xs = [.int i, .int j] ∧ Q (.int (if j < i then j else i)) H) := by
  intro pins s σ H xs us Q I r h
  obtain ⟨i, j, rfl, q⟩ := h
  obtain ⟨u, w', rfl, ⟨t, rfl⟩, ⟨t', rfl⟩⟩ := vals2 r
  refine min_two_ints (I.ok.hd hc) fun h' tk k => ⟨_, H, I.kept k, ?_, q⟩
  by_cases hj : j < i
  · rw [if_pos hj, if_pos hj]; exact ⟨_, rfl⟩
  · rw [if_neg hj, if_neg hj]; exact ⟨_, rfl⟩
end
end L2
namespace L2
open PySem PySem.Spec PyProof.Rows
structure ObjM (h : Heap) (x dx C : Addr) (mA : Str → Option Value) : Prop where
  obj : h.get? x = some (PySem.W.instObj C dx)
  ns : h.Ns1 dx mA
  ne : dx ≠ x
theorem lookIn_ns {h : Heap} {dx : Addr} {mA : Str → Option Value} (n : h.Ns1 dx mA) : ∃ od, h.get? dx = some od ∧ ∀ name, PySem.W.lookIn name od = some (mA name) := by
  obtain ⟨o, es, ep, ho, hd, hk, _, hm⟩ := n
  refine ⟨o, ho, fun name => ?_⟩
  have e := hm name
  unfold nsFind findBy at e
  rw [← Array.find?_toList] at e
  unfold PySem.W.lookIn
  rw [hd]
  dsimp only
  split
  · rename_i y q
    rw [q] at e
    exact congrArg some e
  · rename_i q
    rw [q] at e
    have a : es.toList.any (·.refKey) = false := by
      rw [List.any_eq_false]
      intro y hy
      obtain ⟨z, t, hkey⟩ := hk y (Array.mem_toList_iff.mp hy)
      simp [DictEntry.refKey, hkey]
    have a' : ¬ es.toList.any (·.refKey) = true := by rw [a]; exact Bool.false_ne_true
    rw [if_neg a']
    exact congrArg some e
theorem ObjM.look {h : Heap} {x dx C : Addr} {mA : Str → Option Value} (I : ObjM h x dx C mA) : ∃ od, PySem.W.InstAt h x (PySem.W.instObj C dx) C (some od) ∧ ∀ name, PySem.W.lookIn name od = some (mA name) :=
  let ⟨od, ho, hl⟩ := lookIn_ns I.ns
  ⟨od, ⟨I.obj, rfl, rfl, ho⟩, hl⟩
section
variable {prog : Program} {w : World} {A : Around} {E : Value → Shared → Prop} {s : Shared} {K : PySem.W.Frag} {x dx C f : Addr} {mA : Str → Option Value} {name : Str} {v : Value}
theorem get_map {expr : Bool} {Q : Value → Shared → Prop} (X : K.In s.heap) (I : ObjM s.heap x dx C mA) (hg : PySem.W.plainGet K C name = true) (hh : PySem.W.hasDictIn K C = true)
    (ha : PySem.W.findIn K (.ref C) name = some none) (hv : mA name = some v) (hv' : PySem.W.handedIn v = true) (h : Q v { s with toks := s.toks + 1 }) :
    wpAny (model prog w) A (getAttr (.ref x) name expr) Q E s := by
  obtain ⟨od, J, hl⟩ := I.look
  exact PySem.W.get_value X J (PySem.W.plainGet_of hg).1 (PySem.W.findObj_own hh ha rfl (by rw [hl, hv])) hv' h
theorem set_map {ns : List Str} {Q : Unit → Shared → Prop} (X : K.In s.heap) (I : ObjM s.heap x dx C mA)
    (hs : PySem.W.findIn K (.ref C) "__setattr__" = some (some (.builtin "object.__setattr__"))) (hp : PySem.W.plainOver K C = true) (ht : PySem.W.takerIn K C name = some none) (hh : PySem.W.hasDictIn K C = true)
    (hw : PySem.Within mA ns) (hsz : ns.length ≤ sizeLine)
    (h : ∀ h', ObjM h' x dx C (fun y => if y = name then some v else mA y) → Heap.SameBut dx s.heap h' → Q () { s with heap := h', toks := s.toks + 2 }) :
    wpAny (model prog w) A (setAttr (.ref x) name v) Q E s := by
  obtain ⟨od, J, hl⟩ := I.look
  refine PySem.W.set_plain X J hs (PySem.W.osa_open (s := { s with toks := s.toks + 1 }) (r := none) X J hp ht fun b => ?_)
  obtain ⟨cd, hc, hd'⟩ := PySem.W.any_some hh
  have hx : s.heap.get? x = some ⟨.ref C, some dx, .plain, #[]⟩ := I.obj
  refine wpAny_bind (wpAny_pure (wpAny_bind (wpAny_bind (wpAny_loadPart hx (wpAny_bind (PySem.W.Looks.here (s := { s with toks := s.toks + 1 }) (PySem.W.looks_clsIn X hc) ?_))))))
  rw [hd']
  refine wpAny_pure (a := some dx) (wpAny_bind (wpAny_pure (wpAny_bind ?_)))
  refine wpAny_nsSet1 (s := { s with toks := s.toks + 1 }) I.ns fun h' hn2 hs2 => ?_
  obtain ⟨oD, esD, epD, hoD, hdD, hcD⟩ := hn2.count (PySem.Within.cons name v hw)
  refine wpAny_bind (wpAny_lookBehind hoD (by rw [hdD]; exact pastItsLine_dict (Nat.le_trans hcD (by rw [List.length_cons]; omega))) ?_)
  exact wpAny_pure (h _ ⟨(hs2.2 _ (Ne.symm I.ne)).trans I.obj, hn2, I.ne⟩ hs2)
theorem make_map {R : Result → Shared → Prop} {vs : List Value} {kw : List (Str × Value)} (X : K.In s.heap) (hm : PySem.W.makesIn K C = true)
    (hi : PySem.W.findIn K (.ref C) "__init__" = some (some (.ref f))) (hf : PySem.W.typeIn K (.ref f) = some (.type "function"))
    (h : codeAny (model prog w) (A.under (.builtin "type.__call__" ⟨.ref C :: vs, kw⟩)) (.call (.ref f) ⟨.ref (s.heap.objs.size + 1) :: vs, kw⟩) (PySem.W.InitBack (s.heap.objs.size + 1) R)
      { s with heap := (s.heap.push PySem.W.emptyDict).push (PySem.W.instObj C s.heap.objs.size) }) :
    codeAny (model prog w) A (.call (.ref C) ⟨vs, kw⟩) R s := by
  obtain ⟨hh, g, d, t, os⟩ := s
  exact PySem.W.make_core (PySem.W.makes_of X hm) (PySem.W.looks_findIn X hi) (fun self => PySem.W.bind_fn X self hf) (.inl rfl) h
end
def putF (f : Str) (v : V) : List (Str × V) → List (Str × V)
  | [] => [(f, v)]
  | (g, x) :: r => if g = f then (g, v) :: r else (g, x) :: putF f v r
theorem lookup_putF (f g : Str) (v : V) : ∀ fs : List (Str × V), (putF f v fs).lookup g = if g = f then some v else fs.lookup g
  | [] => by
    show List.lookup g [(f, v)] = _
    by_cases h : g = f
    · have hb : (g == f) = true := beq_iff_eq.mpr h
      simp only [List.lookup, hb, if_pos h]
    · have hb : (g == f) = false := beq_eq_false_iff_ne.mpr h
      simp only [List.lookup, hb, if_neg h]
  | (k, x) :: r => by
    have ih := lookup_putF f g v r
    rw [show putF f v ((k, x) :: r) = (if k = f then (k, v) :: r else (k, x) :: putF f v r) from rfl]
    by_cases hk : k = f
    · rw [if_pos hk]
      by_cases h : g = k
      · have hb : (g == k) = true := beq_iff_eq.mpr h
        simp only [List.lookup, hb, if_pos (h.trans hk)]
      · have hb : (g == k) = false := beq_eq_false_iff_ne.mpr h
        simp only [List.lookup, hb, if_neg (fun e : g = f => h (e.trans hk.symm))]
    · rw [if_neg hk]
      by_cases h : g = k
      · have hb : (g == k) = true := beq_iff_eq.mpr h
        simp only [List.lookup, hb, if_neg (fun e : g = f => hk (h.symm.trans e))]
      · have hb : (g == k) = false := beq_eq_false_iff_ne.mpr h
        simp only [List.lookup, hb]
        exact ih
theorem keys_putF (f : Str) (v : V) : ∀ fs : List (Str × V), f ∈ (putF f v fs).map (·.1) ∧ ∀ g, g ∈ fs.map (·.1) → g ∈ (putF f v fs).map (·.1)
  | [] => ⟨by simp [putF], fun g h => by simp at h⟩
  | (k, x) :: r => by
    obtain ⟨i1, i2⟩ := keys_putF f v r
    rw [show putF f v ((k, x) :: r) = (if k = f then (k, v) :: r else (k, x) :: putF f v r) from rfl]
    by_cases hk : k = f
    · rw [if_pos hk]
      subst hk
      exact ⟨by simp, fun g h => by simpa using h⟩
    · rw [if_neg hk]
      refine ⟨?_, fun g h => ?_⟩
      · rw [List.map_cons]
        exact List.mem_cons_of_mem _ i1
      · rw [List.map_cons] at h ⊢
        rcases List.mem_cons.mp h with e | e
        · exact List.mem_cons.mpr (.inl e)
        · exact List.mem_cons_of_mem _ (i2 g e)
theorem length_putF (f : Str) (v : V) : ∀ fs : List (Str × V), (putF f v fs).length ≤ fs.length + 1
  | [] => by simp [putF]
  | (k, x) :: r => by
    have ih := length_putF f v r
    rw [show putF f v ((k, x) :: r) = (if k = f then (k, v) :: r else (k, x) :: putF f v r) from rfl]
    by_cases hk : k = f
    · rw [if_pos hk, List.length_cons, List.length_cons]; omega
    · rw [if_neg hk, List.length_cons, List.length_cons]; omega
theorem RelO.some_of {v : V} {o : Option Value} (r : RelO (some v) o) : ∃ u, o = some u ∧ RelV v u := by
  cases o with
  | none => exact (show False from r).elim
  | some u => exact ⟨u, rfl, r⟩
theorem handed_of {v : V} {u : Value} (r : RelV v u) : PySem.W.handedIn u = true := by
  cases v with
  | non => cases (show u = Value.none from r); rfl
  | bl b => cases (show u = Value.bool b from r); rfl
  | int i => obtain ⟨t, e⟩ := (show ∃ t, u = Value.int i t from r); cases e; rfl
  | str x => obtain ⟨t, e⟩ := (show ∃ t, u = Value.str x t from r); cases e; rfl
  | byt b => obtain ⟨t, e⟩ := (show ∃ t, u = Value.bytes b t from r); cases e; rfl
  | flt b => obtain ⟨t, e⟩ := (show ∃ t, u = Value.float b t from r); cases e; rfl
  | ref a => cases (show u = Value.ref a from r); rfl
  | ty n => cases (show u = Value.type n from r); rfl
section
variable {P : Program} {w : World} {H H' : Hp} {h h' : Heap} {a C dx : Addr} {fs fs' : List (Str × V)}
theorem ins_get (hok : HOk P w H h) (e : H a = some (.ins C dx fs)) : ∃ mA, ObjM h a dx C mA ∧ (∀ f, RelO (fs.lookup f) (mA f)) ∧ PySem.Within mA (fs.map (·.1)) ∧ fs.length ≤ 1000 ∧ H dx = some (.own a) := by
  obtain ⟨d, z, ne, ob, mA, n, r, q⟩ := (show ObjOk P w H h a (.ins C dx fs) from hok a _ e)
  exact ⟨mA, ⟨ob, n, ne⟩, r, q, z, d⟩
end
structure Cls (K : PySem.W.Frag) (C : Addr) : Prop where
  pg : PySem.W.plainGet K C Str.empty = true
  hd : PySem.W.hasDictIn K C = true
  po : PySem.W.plainOver K C = true
  sa : PySem.W.findIn K (.ref C) "__setattr__" = some (some (.builtin "object.__setattr__"))
theorem Cls.get {K : PySem.W.Frag} {C : Addr} (c : Cls K C) (f : Str) : PySem.W.plainGet K C f = true := c.pg
def NoAttr (K : PySem.W.Frag) (C : Addr) (f : Str) : Prop := PySem.W.findIn K (.ref C) f = some none
theorem NoAttr.taker {K : PySem.W.Frag} {C : Addr} {f : Str} (n : NoAttr K C f) : PySem.W.takerIn K C f = some none := by
  unfold PySem.W.takerIn
  rw [show PySem.W.findIn K (.ref C) f = some none from n]
  rfl
section
variable {X : Cx} {pins : List (Addr × Obj)} {σ : St} {H : Hp} {s : Shared} {a C dx : Addr} {fs : List (Str × V)} {f : Str} {v : V} {A : Around} {E : Value → Shared → Prop}
theorem getattr_ok {b : Bool} {Q : Value → Shared → Prop} (I : Inv X pins σ H s) (e : H a = some (.ins C dx fs)) (c : Cls X.K C) (n : NoAttr X.K C f) (l : fs.lookup f = some v)
    (h : ∀ u s', Inv X pins σ H s' → RelV v u → Q u s') : wpAny (model X.prog X.w) A (getAttr (.ref a) f b) Q E s := by
  obtain ⟨mA, O, r, _, _, _⟩ := ins_get I.hok e
  obtain ⟨u, hu, ru⟩ := RelO.some_of (v := v) (o := mA f) (by rw [← l]; exact r f)
  exact get_map I.kIn O (c.get f) c.hd n hu (handed_of ru) (h u _ (I.tok _) ru)
theorem setattr_ok {y : V} {u : Value} {Q : Unit → Shared → Prop} (I : Inv X pins σ H s) (e : H a = some (.ins C dx fs)) (c : Cls X.K C) (n : NoAttr X.K C f) (hl : fs.length < 1000) (ry : RelV y u)
    (h : ∀ s', Inv X pins σ (upd H a (.ins C dx (putF f y fs))) s' → Q () s') : wpAny (model X.prog X.w) A (setAttr (.ref a) f u) Q E s := by
  obtain ⟨mA, O, r, wi, _, ho⟩ := ins_get I.hok e
  have hz : (fs.map (·.1)).length ≤ sizeLine := by rw [List.length_map, sizeLine_eq]; omega
  refine set_map I.kIn O c.sa c.po n.taker c.hd wi hz fun h' O' sb => h _ ?_
  have hd : ∃ o, h'.get? dx = some o := let ⟨o, _, _, e', _⟩ := O'.ns; ⟨o, e'⟩
  refine I.write (x := a) (e := dx) (by rw [e]; exact True.intro) (.inr ho) (fun b q hb z => (sb.2 b hb).trans z) hd ?_
  refine ⟨by rw [upd_ne O.ne]; exact ho, ?_, O.ne, O'.obj, _, O'.ns, fun g => ?_, fun g hg => ?_⟩
  · have := length_putF f y fs; omega
  · show RelO ((putF f y fs).lookup g) (if g = f then some u else mA g)
    rw [lookup_putF]
    by_cases q : g = f
    · rw [if_pos q, if_pos q]; exact ry
    · rw [if_neg q, if_neg q]; exact r g
  · by_cases q : g = f
    · rw [q]; exact (keys_putF f y fs).1
    · refine (keys_putF f y fs).2 g (wi g fun z => hg ?_)
      show (if g = f then some u else mA g) = none
      rw [if_neg q]; exact z
theorem Inv.made (I : Inv X pins σ H s) : Inv X pins σ (upd (upd H s.heap.objs.size (.own (s.heap.objs.size + 1))) (s.heap.objs.size + 1) (.ins C s.heap.objs.size []))
    { s with heap := (s.heap.push PySem.W.emptyDict).push (PySem.W.instObj C s.heap.objs.size) } := by
  have e1 : (s.heap.push PySem.W.emptyDict).get? s.heap.objs.size = some PySem.W.emptyDict := Heap.get?_push_size s.heap rfl
  have e2 : ((s.heap.push PySem.W.emptyDict).push (PySem.W.instObj C s.heap.objs.size)).get? (s.heap.objs.size + 1) = some (PySem.W.instObj C s.heap.objs.size) := by
    have := Heap.get?_push_size (s.heap.push PySem.W.emptyDict) (o := PySem.W.instObj C s.heap.objs.size) rfl
    rwa [Heap.size_push] at this
  have e3 : (s.heap.push PySem.W.emptyDict).Ns s.heap.objs.size (fun _ => none) := ⟨PySem.W.emptyDict, #[], _, e1, rfl, (fun e he => absurd he (by simp)), fun _ => rfl⟩
  have I1 := I.laid (a := s.heap.objs.size) (o := .own (s.heap.objs.size + 1)) (h' := s.heap.push PySem.W.emptyDict) (t' := s.toks) (fun b u q => Heap.get?_push_of_some _ q) (Nat.le_refl _) ⟨_, e1⟩
  refine I1.laid (a := s.heap.objs.size + 1) (o := .ins C s.heap.objs.size []) (t' := s.toks) (fun b u q => Heap.get?_push_of_some _ q) (Nat.le_of_eq (Heap.size_push _ _)) ?_
  have ne : s.heap.objs.size ≠ s.heap.objs.size + 1 := Nat.ne_of_lt (Nat.lt_succ_self _)
  refine ⟨by rw [upd_ne ne, upd_same], Nat.zero_le _, ne, e2, fun _ => none, (Heap.Ns1.of_empty e3).at fun o q => Heap.get?_push_of_some _ q, fun _ => True.intro, fun y hy => absurd rfl hy⟩
theorem attr_of {prog : Program} {w : World} {env : Env} {e : Expr} {f : Str} {pos : Pos} {s : Shared} {Q : Value → Shared → Prop} (hb : attributeBase e f env (eval e env) = eval e env)
    (h : wpAny (model prog w) A (eval e env) (fun o s₁ => wpAny (model prog w) A (getAttr o f true) Q E s₁) E s) : wpAny (model prog w) A (eval (.Attribute e f pos) env) Q E s :=
  Attribute_any_ h (by rw [arm_eval_Attribute, hb])
end
def tFld (K : PySem.W.Frag) (ta : TE) (f : Str) : TE := fun σ H Q => ta σ H fun x H1 => ∃ a C dx fs v, x = .ref a ∧ H1 a = some (.ins C dx fs) ∧ Cls K C ∧ NoAttr K C f ∧ fs.lookup f = some v ∧ Q v H1
def sFld (K : PySem.W.Frag) (ta tv : TE) (f : Str) : TS := fun D σ H => tv σ H fun y H1 => ta σ H1 fun x H2 => ∃ a C dx fs, x = .ref a ∧ H2 a = some (.ins C dx fs) ∧ Cls K C ∧ NoAttr K C f ∧ fs.length < 1000 ∧
  D.nx σ (upd H2 a (.ins C dx (putF f y fs)))
section
variable {X : Cx} {o e value : Expr} {f : Str} {pos pos' tpos : Pos} {ta tv : TE}
theorem pe_fld (he : PE X e ta) (hb : attributeBase e f X.env (eval e X.env) = eval e X.env) : PE X (.Attribute e f pos) (tFld X.K ta f) := by
  intro pins s σ H Q I h
  refine attr_of hb (thn (he pins s σ H _ I h) fun u s1 ⟨x, H1, I1, rx, a, C, dx, fs, v, ex, ea, c, n, l, q⟩ => ?_)
  subst ex
  obtain rfl : u = Value.ref a := rx
  exact getattr_ok I1 ea c n l fun u' s2 I2 ru => ⟨v, H1, I2, ru, q⟩
theorem ps_fld (ha : PE X o ta) (hv : PE X value tv) (hs : swapsWith value (some (.Attribute o f pos')) pos.line X.env = pure false) : PS X (.Assign [.Attribute o f pos'] value pos) (sFld X.K ta tv f) := by
  intro pins s σ H D I h
  refine plainObj_wpAny_Assign_Attribute (thn (hv pins s σ H _ I h) fun u s1 ⟨y, H1, I1, ry, q⟩ => thn (ha pins s1 σ H1 _ I1 q) fun ov s2 ⟨x, H2, I2, rx, a, C, dx, fs, ex, ea, c, n, l, q2⟩ => ?_) hs
  subst ex
  obtain rfl : ov = Value.ref a := rx
  exact setattr_ok I2 ea c n l ry fun s3 I3 => ⟨σ, _, I3, q2⟩
end
section
variable {X : Cx} {pins : List (Addr × Obj)} {σ : St} {H : Hp} {s : Shared} {A : Around} {E : Value → Shared → Prop} {Q : Value → Shared → Prop} {c : Value} {b : Bool}
end
end L2
namespace L2
open PySem PySem.Spec PyProof.Rows
structure Room (k : Nat) (A : Around) : Prop where
  hd : A.handled = none
  dp : A.depth + 3 * k + 5 < recursionLimit
  un : A.units + 16 * k + 200 < cLine
theorem Room.mono {j k : Nat} {A : Around} (r : Room k A) (h : j ≤ k) : Room j A := ⟨r.hd, by have := r.dp; omega, by have := r.un; omega⟩
theorem Room.deeper {k : Nat} {A : Around} (r : Room (k + 1) A) (env : Env) : Room k (A.deeper env) :=
  ⟨r.hd, by have := r.dp; show A.depth + 1 + 3 * k + 5 < _; omega, by have := r.un; show A.units + 3 + 16 * k + 200 < _; omega⟩
theorem make_depth {A : Around} {C : Addr} {us : List Value} {kw : List (Str × Value)} : (A.under (.builtin "type.__call__" ⟨.ref C :: us, kw⟩)).depth = A.depth + 1 := by
  first | rfl | simp [Around.under, Code.weight, Code.isCreation, Code.isGuard, Code.isCaller, Code.frames, Code.isFrame, guardIds]
theorem make_units {A : Around} {C : Addr} {us : List Value} {kw : List (Str × Value)} : (A.under (.builtin "type.__call__" ⟨.ref C :: us, kw⟩)).units = A.units + 1 := by
  first | rfl | simp [Around.under, Code.cUnits, Code.frames, Code.isFrame]
theorem Room.make {k : Nat} {A : Around} (r : Room (k + 1) A) (C : Addr) (us : List Value) (kw : List (Str × Value)) : Room k (A.under (.builtin "type.__call__" ⟨.ref C :: us, kw⟩)) :=
  ⟨r.hd, by have := r.dp; rw [make_depth]; omega, by have := r.un; rw [make_units]; omega⟩
theorem Room.depth {k : Nat} {A : Around} (r : Room k A) : A.depth < recursionLimit := by have := r.dp; omega
def tNil : TA := fun _ H Q => Q [] H
def tCons (ta : TE) (tr : TA) : TA := fun σ H Q => ta σ H fun x H1 => tr σ H1 fun xs H2 => Q (x :: xs) H2
section
variable {X : Cx} {e : Expr} {es : List Expr} {te : TE} {t : TA} {pos : Pos}
theorem pa_nil : PA X [] tNil := fun _ _ _ _ H Q I h => Calls.spliced_nil ⟨[], H, I, .nil, h⟩
theorem pa_cons (ha : PE X e te) (hr : PA X es t) (hs : starEach (e :: es) X.env = (false, eval e X.env) :: starEach es X.env := by rfl) : PA X (e :: es) (tCons te t) := by
  intro pos pins s σ H Q I h
  rw [hs]
  show wpAny _ _ (spliced ((false, eval e X.env) :: backTo pos (starEach es X.env))) _ _ s
  refine Calls.spliced_cons (thn (ha pins s σ H _ I h) fun u s1 ⟨x, H1, I1, r1, q1⟩ => ?_)
  exact thn (hr pos pins s1 σ H1 _ I1 q1) fun us s2 ⟨xs, H2, I2, r2, q2⟩ => ⟨x :: xs, H2, I2, .cons r1 r2, q2⟩
def tLst (t : TA) : TE := fun σ H Q => t σ H fun xs H1 => xs.length ≤ sizeLine ∧ ∀ p, H1 p = none → Q (.ref p) (upd H1 p (.lst xs))
theorem pe_lst (h : PA X es t) : PE X (.List es pos) (tLst t) := by
  intro pins s σ H Q I hq
  refine wpAny_List_spliced (thn (h pos pins s σ H _ I hq) fun us s1 ⟨xs, H1, I1, r, z, q⟩ => ⟨by rw [← r.length]; exact z, ?_⟩)
  have hf : H1 s1.heap.objs.size = none := I1.hok.fresh (Nat.le_refl _)
  refine ⟨.ref s1.heap.objs.size, upd H1 s1.heap.objs.size (.lst xs), I1.laid (t' := s1.toks) (fun b u e => Heap.get?_push_of_some _ e) (Nat.le_refl _) ?_, rfl, q _ hf⟩
  exact ⟨z, us, 0, r, Heap.get?_push_size _ rfl⟩
end
abbrev Sp := List V → Hp → VK → XK → Prop
abbrev CXT := List Env → Hp → Shared → XK → Value → Shared → Prop
structure Env0 (P : Program) (w : World) (K : PySem.W.Frag) (mg : Str → Option Value) (base : Heap) (A : Around) (outer : List Env) (s : Shared) (H : Hp) : Prop where
  frames : A.frames = some outer
  mod : Mod K mg base
  bs : ∀ b o, base.get? b = some o → s.heap.get? b = some o ∧ H b = none
  bsz : base.objs.size ≤ s.heap.objs.size
  funs : s.heap.FunFrames base outer
  frf : ∀ b ∈ frs outer, H b = none
  hok : HOk P w H s.heap
  bare : AllBare s.gens
def CE (outer : List Env) (P : Program) (w : World) (H : Hp) (s : Shared) (Q : VK) (u : Value) (s' : Shared) : Prop :=
  ∃ v H', s'.os = s.os ∧ AllBare s'.gens ∧ Un (frs outer) [] H H' s.heap s'.heap ∧ HOk P w H' s'.heap ∧ RelV v u ∧ Q v H'
def CR (CX : CXT) (outer : List Env) (P : Program) (w : World) (H : Hp) (s : Shared) (Q : VK) (E : XK) (r : Result) (s' : Shared) : Prop :=
  match r with
  | .ok (.ret u) => CE outer P w H s Q u s'
  | .ok _ => False
  | .error e => CX outer H s E e s'
structure FnOk (P : Program) (w : World) (K : PySem.W.Frag) (mg : Str → Option Value) (base : Heap) (CX : CXT) (k : Nat) (f : Addr) (fd : FuncData) (ps : List Str) (sp : Sp) : Prop where
  len : ∀ vs H Q E, sp vs H Q E → vs.length = ps.length
  run : ∀ (A : Around) (outer : List Env) (s : Shared) (H : Hp) (args : Args) (us : List Value) (vs : List V) (Q : VK) (E : XK), Room k A → Env0 P w K mg base A outer s H → BindsTo s fd args (ps.zip us) → Vals vs us → sp vs H Q E →
    codeAny (model P w) A (.call (.ref f) args) (CR CX outer P w H s Q E) s
theorem FnOk.imp {P : Program} {w : World} {K : PySem.W.Frag} {mg : Str → Option Value} {base : Heap} {CX : CXT} {k : Nat} {f : Addr} {fd : FuncData} {ps : List Str} {sp sp' : Sp} (F : FnOk P w K mg base CX k f fd ps sp)
    (h : ∀ vs H Q E, sp' vs H Q E → sp vs H Q E) : FnOk P w K mg base CX k f fd ps sp' :=
  ⟨fun vs H Q E q => F.len vs H Q E (h _ _ _ _ q), fun A outer s H args us vs Q E hr he hb hv hs => F.run A outer s H args us vs Q E hr he hb hv (h _ _ _ _ hs)⟩
theorem Env0.make {P : Program} {w : World} {K : PySem.W.Frag} {mg : Str → Option Value} {base : Heap} {A : Around} {outer : List Env} {s : Shared} {H : Hp} (e : Env0 P w K mg base A outer s H) (C : Addr) (us : List Value) (kw : List (Str × Value)) :
    Env0 P w K mg base (A.under (.builtin "type.__call__" ⟨.ref C :: us, kw⟩)) outer s H := ⟨by first | exact e.frames | (simpa [Around.under, Code.envs, Code.isFrame, pushEnvs] using e.frames), e.mod, e.bs, e.bsz, e.funs, e.frf, e.hok, e.bare⟩
section
variable {X : Cx} {pins : List (Addr × Obj)} {σ : St} {H : Hp} {s s' : Shared}
theorem Inv.env0 (I : Inv X pins σ H s) : Env0 X.prog X.w X.K X.mg X.base X.A X.stack s H :=
  ⟨I.ok.frames, I.ok.mod, I.bs, Nat.le_trans I.ok.bsz I.sz, I.stack, I.stkFree, I.hok, I.bare⟩
theorem Inv.after {Q : VK} {u : Value} (I : Inv X pins σ H s) (h : CE X.stack X.prog X.w H s Q u s') : EP X pins σ Q u s' := by
  obtain ⟨v, H', os, bare, un, hok, r, q⟩ := h
  obtain ⟨hh, g, d, t, os'⟩ := s'
  obtain rfl : os' = s.os := os
  exact ⟨v, H', I.call (h' := hh) (g' := g) (d' := d) (t' := t) (ch := []) un hok bare (fun b z => absurd z (by simp)), r, q⟩
end
def tCall (sp : Sp) (dvs : List V) (E : XK) (t : TA) : TE := fun σ H Q => t σ H fun vs H1 => sp (vs ++ dvs) H1 Q E
def tMake (C : Addr) (sp : Sp) (dvs : List V) (E : XK) (t : TA) : TE := fun σ H Q => t σ H fun vs H1 => ∀ x dx, H1 x = none → H1 dx = none → dx ≠ x →
  sp (.ref x :: (vs ++ dvs)) (upd (upd H1 dx (.own x)) x (.ins C dx [])) (fun v H2 => v = .non ∧ Q (.ref x) H2) E
def Binds (K : PySem.W.Frag) (fd : FuncData) (ps : List Str) (ds : List Value) : Prop :=
  ∀ (s : Shared) (us : List Value), K.In s.heap → (us ++ ds).length = ps.length → BindsTo s fd ⟨us, []⟩ (ps.zip (us ++ ds))
theorem Binds.all {K : PySem.W.Frag} {fd : FuncData} {ps : List Str} (h : ∀ us : List Value, us.length = ps.length → bindArgs fd ⟨us, []⟩ = pure (ps.zip us)) : Binds K fd ps [] := fun s us _ hl => by
  rw [List.append_nil] at hl ⊢
  exact .of_eq (h us hl)
def Passes (CX : CXT) (X : Cx) (E : XK) : Prop := ∀ (pins : List (Addr × Obj)) (σ : St) (H : Hp) (s : Shared) (e : Value) (s' : Shared), Inv X pins σ H s → CX X.stack H s E e s' → X.xe e s'
section
variable {X : Cx} {CX : CXT} {k : Nat} {f C : Addr} {fd : FuncData} {ps : List Str} {sp : Sp} {dvs : List V} {ds : List Value} {E : XK} {x m : Str} {p pos apos : Pos} {e o : Expr} {es : List Expr} {ta : TE} {t : TA}
theorem run_fn {pins : List (Addr × Obj)} {σ : St} {H : Hp} {s : Shared} {Q : VK} {us : List Value} {vs : List V} (F : FnOk X.prog X.w X.K X.mg X.base CX k f fd ps sp) (hr : Room k X.A) (hb : Binds X.K fd ps ds) (hd : Vals dvs ds) (hx : Passes CX X E)
    (I : Inv X pins σ H s) (r : Vals vs us) (h : sp (vs ++ dvs) H Q E) : wpAny (model X.prog X.w) X.A (call (.ref f) us) (EP X pins σ Q) X.xe s := by
  have r2 : Vals (vs ++ dvs) (us ++ ds) := r.append hd
  have hl : (us ++ ds).length = ps.length := by rw [← r2.length]; exact F.len _ _ _ _ h
  refine wpAny_call (codeAny_mono (F.run X.A X.stack s H ⟨us, []⟩ (us ++ ds) (vs ++ dvs) Q E hr I.env0 (hb s us I.kIn hl) r2 h) fun r s' hq => ?_)
  cases r with
  | error e => exact hx pins σ H s e s' I hq
  | ok fl =>
    cases fl with
    | ret u => exact I.after hq
    | next => exact False.elim hq
    | brk => exact False.elim hq
    | cont => exact False.elim hq
theorem pe_call (F : FnOk X.prog X.w X.K X.mg X.base CX k f fd ps sp) (hr : Room k X.A) (hg : Gl X x) (hm : X.mg x = some (.ref f)) (hk : PySem.W.keepIn X.K (.ref f) = true) (hb : Binds X.K fd ps ds) (hd : Vals dvs ds) (hx : Passes CX X E)
    (ha : PA X (e :: es) t) (hdb : (x == ("__debug__" : Str)) = false := by decide) (he : starEach (e :: es) X.env = (false, eval e X.env) :: starEach es X.env := by rfl) (hpl : (backTo pos (starEach es X.env)).any (·.1) = false := by rfl) :
    PE X (.Call (.Name x p) (e :: es) [] pos) (tCall sp dvs E t) := by
  intro pins s σ H Q I h
  refine wpAny_Call_Name_kw (ld_glob I hg hm ?_ hdb)
  refine PySem.W.callWith_K (h₀ := X.base) I.ok.mod.kin hk (thn (ha pos pins s σ H _ I h) fun us s1 ⟨vs, H1, I1, r, q⟩ => ⟨I1.kIn, ?_⟩) he hpl
  exact run_fn F hr hb hd hx I1 r q
structure Mk (K : PySem.W.Frag) (C f : Addr) : Prop where
  makes : PySem.W.makesIn K C = true
  init : PySem.W.findIn K (.ref C) "__init__" = some (some (.ref f))
  fn : PySem.W.isFn K (.ref f) = true
  kp : PySem.W.keepIn K (.ref C) = true
theorem run_make {pins : List (Addr × Obj)} {σ : St} {H : Hp} {s : Shared} {Q : VK} {us : List Value} {vs : List V} (M : Mk X.K C f) (F : FnOk X.prog X.w X.K X.mg X.base CX k f fd ps sp) (hr : Room (k + 1) X.A) (hb : Binds X.K fd ps ds) (hd : Vals dvs ds)
    (hx : Passes CX X E) (I : Inv X pins σ H s) (r : Vals vs us)
    (h : ∀ x dx, H x = none → H dx = none → dx ≠ x → sp (.ref x :: (vs ++ dvs)) (upd (upd H dx (.own x)) x (.ins C dx [])) (fun v H2 => v = .non ∧ Q (.ref x) H2) E) :
    wpAny (model X.prog X.w) X.A (call (.ref C) us) (EP X pins σ Q) X.xe s := by
  have hq := h (s.heap.objs.size + 1) s.heap.objs.size (I.hok.fresh (Nat.le_succ _)) (I.hok.fresh (Nat.le_refl _)) (Nat.ne_of_lt (Nat.lt_succ_self _))
  have I2 := Inv.made (C := C) I
  have r2 : Vals (V.ref (s.heap.objs.size + 1) :: (vs ++ dvs)) (Value.ref (s.heap.objs.size + 1) :: (us ++ ds)) := .cons rfl (r.append hd)
  have hl : (Value.ref (s.heap.objs.size + 1) :: us ++ ds).length = ps.length := by
    have e := r2.length
    rw [F.len _ _ _ _ hq] at e
    exact e.symm
  refine wpAny_call (make_map (f := f) I.kIn M.makes M.init (beq_iff_eq.mp M.fn) (codeAny_mono (F.run _ X.stack _ _ ⟨Value.ref (s.heap.objs.size + 1) :: us, []⟩ (Value.ref (s.heap.objs.size + 1) :: (us ++ ds)) _ _ E (hr.make C us [])
    (I2.env0.make C us []) (hb _ (Value.ref (s.heap.objs.size + 1) :: us) I2.kIn hl) r2 hq) fun r s' hq' => ?_))
  cases r with
  | error e => exact hx pins σ _ _ e s' I2 hq'
  | ok fl =>
    cases fl with
    | ret u =>
      obtain ⟨v, H', I3, rv, ev, q3⟩ := I2.after hq'
      subst ev
      exact ⟨rv, ⟨V.ref (s.heap.objs.size + 1), H', I3, rfl, q3⟩⟩
    | next => exact False.elim hq'
    | brk => exact False.elim hq'
    | cont => exact False.elim hq'
theorem pe_make (M : Mk X.K C f) (F : FnOk X.prog X.w X.K X.mg X.base CX k f fd ps sp) (hr : Room (k + 1) X.A) (hg : Gl X x) (hm : X.mg x = some (.ref C)) (hb : Binds X.K fd ps ds) (hd : Vals dvs ds) (hx : Passes CX X E)
    (ha : PA X (e :: es) t) (hdb : (x == ("__debug__" : Str)) = false := by decide) (he : starEach (e :: es) X.env = (false, eval e X.env) :: starEach es X.env := by rfl) (hpl : (backTo pos (starEach es X.env)).any (·.1) = false := by rfl) :
    PE X (.Call (.Name x p) (e :: es) [] pos) (tMake C sp dvs E t) := by
  intro pins s σ H Q I h
  refine wpAny_Call_Name_kw (ld_glob I hg hm ?_ hdb)
  refine PySem.W.callWith_K (h₀ := X.base) I.ok.mod.kin M.kp (thn (ha pos pins s σ H _ I h) fun us s1 ⟨vs, H1, I1, r, q⟩ => ⟨I1.kIn, ?_⟩) he hpl
  exact run_make M F hr hb hd hx I1 r q
theorem pe_make0 (M : Mk X.K C f) (F : FnOk X.prog X.w X.K X.mg X.base CX k f fd ps sp) (hr : Room (k + 1) X.A) (hg : Gl X x) (hm : X.mg x = some (.ref C)) (hb : Binds X.K fd ps ds) (hd : Vals dvs ds) (hx : Passes CX X E)
    (hdb : (x == ("__debug__" : Str)) = false := by decide) : PE X (.Call (.Name x p) [] [] pos) (tMake C sp dvs E tNil) := by
  intro pins s σ H Q I h
  refine wpAny_Call_Name_kw (ld_glob I hg hm ?_ hdb)
  exact PySem.W.callWith_K0 I.kIn M.kp (run_make (us := []) M F hr hb hd hx I .nil h)
end
section
variable {X : Cx} {CX : CXT} {k : Nat} {f C : Addr} {fd : FuncData} {ps ks : List Str} {sp : Sp} {E : XK} {x m : Str} {p pos apos kpos : Pos} {e o : Expr} {es : List Expr} {kws : List Keyword} {te ta : TE} {t tk : TA} {nm : Option Str}
variable {g : List Value → List Value → List Value} {gV : List V → List V → List V}
end
structure FnScope (N P : List Str) (sc : Scope) : Prop where
  kind : sc.kind = .function
  co : sc.isCoroutine = false
  gen : sc.isGenerator = false
  nd : N.Nodup
  pre : N.take P.length = P
  par : ∀ x ∈ P, sc.names.lookup x = some .local ∨ sc.names.lookup x = some .cell
  nofree : ∀ y ∈ sc.names, y.2 ≠ .free
theorem bindL_out {kindOf : Str → Option NameKind} {x : Str} : ∀ {binds : List (Str × Value)} {m : Str → Option Value}, (∀ v, (x, v) ∉ binds) → bindL kindOf binds m x = m x
  | [], _, _ => rfl
  | (n, v) :: r, m, h => by
    unfold bindL
    rw [bindL_out fun w hw => h w (List.mem_cons_of_mem _ hw)]
    split
    · have : x ≠ n := by rintro rfl; exact h v List.mem_cons_self
      simp [this]
    · rfl
theorem bindC_out {kindOf : Str → Option NameKind} {x : Str} : ∀ {binds : List (Str × Value)} {m : Str → Option Value}, (∀ v, (x, v) ∉ binds) → bindC kindOf binds m x = m x
  | [], _, _ => rfl
  | (n, v) :: r, m, h => by
    unfold bindC
    rw [bindC_out fun w hw => h w (List.mem_cons_of_mem _ hw)]
    split
    · rfl
    · have : x ≠ n := by rintro rfl; exact h v List.mem_cons_self
      simp [this]
theorem bindL_get {kindOf : Str → Option NameKind} {x : Str} {v : Value} : ∀ {P : List Str} {vs : List Value} {i : Nat} {m : Str → Option Value}, P.Nodup → P[i]? = some x → vs[i]? = some v → kindOf x = some .local →
    bindL kindOf (P.zip vs) m x = some v
  | [], _, _, _, _, h, _, _ => by simp at h
  | _ :: _, [], _, _, _, _, h, _ => by simp at h
  | p :: P, w :: vs, 0, m, nd, h1, h2, hk => by
    simp at h1 h2; subst h1; subst h2
    show bindL kindOf ((p, w) :: P.zip vs) m p = _
    unfold bindL
    rw [bindL_out fun v hv => (List.nodup_cons.mp nd).1 (List.of_mem_zip hv).1, if_pos hk]
    simp
  | p :: P, w :: vs, i + 1, m, nd, h1, h2, hk => by
    show bindL kindOf ((p, w) :: P.zip vs) m x = _
    unfold bindL
    exact bindL_get (i := i) (List.nodup_cons.mp nd).2 (by simpa using h1) (by simpa using h2) hk
theorem bindC_get {kindOf : Str → Option NameKind} {x : Str} {v : Value} : ∀ {P : List Str} {vs : List Value} {i : Nat} {m : Str → Option Value}, P.Nodup → P[i]? = some x → vs[i]? = some v → kindOf x ≠ some .local →
    bindC kindOf (P.zip vs) m x = some v
  | [], _, _, _, _, h, _, _ => by simp at h
  | _ :: _, [], _, _, _, _, h, _ => by simp at h
  | p :: P, w :: vs, 0, m, nd, h1, h2, hk => by
    simp at h1 h2; subst h1; subst h2
    show bindC kindOf ((p, w) :: P.zip vs) m p = _
    unfold bindC
    rw [bindC_out fun v hv => (List.nodup_cons.mp nd).1 (List.of_mem_zip hv).1, if_neg hk]
    simp
  | p :: P, w :: vs, i + 1, m, nd, h1, h2, hk => by
    show bindC kindOf ((p, w) :: P.zip vs) m x = _
    unfold bindC
    exact bindC_get (i := i) (List.nodup_cons.mp nd).2 (by simpa using h1) (by simpa using h2) hk
def start (N : List Str) (vs : List V) : St := vs.map some ++ List.replicate (N.length - vs.length) none
def cxOf (CX : CXT) (P : Program) (w : World) (K : PySem.W.Frag) (mg : Str → Option Value) (base : Heap) (N : List Str) (qual : Str) (scope : Scope) (f : Addr) (cd : Value) (A : Around) (outer : List Env) (s : Shared) (H : Hp) (E : XK) : Cx where
  prog := P
  w := w
  K := K
  mg := mg
  base := base
  A := A.deeper (envOfC qual scope s.heap.objs.size f cd)
  N := N
  s_0 := s
  H_0 := H
  env := envOfC qual scope s.heap.objs.size f cd
  outer := outer
  stack := envOfC qual scope s.heap.objs.size f cd :: outer
  ex := []
  calm := true
  fn := fun _ => true
  pn := []
  xe := fun e s' => wpAny (model P w) (A.deeper (envOfC qual scope s.heap.objs.size f cd)) (leaving (envOfC qual scope s.heap.objs.size f cd) e) (fun _ s'' => CX outer H s E e s'') (fun e' s'' => CX outer H s E e' s'') s'
theorem cell_has {sc : Scope} {n : Nat} {x : Str} (h : sc.names.lookup x = some .cell) : ∃ c, (cellsFrom n sc.names []).lookup x = some c := by
  have q := PySem.W.cellsFrom_some sc.names n [] (.inl h)
  exact Option.isSome_iff_exists.mp q
theorem inv_start {CX : CXT} {P : Program} {w : World} {K : PySem.W.Frag} {mg : Str → Option Value} {base : Heap} {N ps : List Str} {qual : Str} {scope : Scope} {f : Addr} {cd : Value} {A : Around} {outer : List Env} {s s1 : Shared} {H : Hp} {E : XK} {us : List Value} {vs : List V}
    (S : FnScope N ps scope) (hd : A.handled = none) (e0 : Env0 P w K mg base A outer s H) (hl : vs.length = ps.length) (r : Vals vs us)
    (x : InCallC s s.heap.objs.size (bindL (envOfC qual scope s.heap.objs.size f cd).kindOf (ps.zip us) fun _ => none) (cellsFrom (s.heap.objs.size + 1) scope.names []) (bindC (envOfC qual scope s.heap.objs.size f cd).kindOf (ps.zip us) fun _ => none) s1) :
    Inv (cxOf CX P w K mg base N qual scope f cd A outer s H E) [] (start N vs) H s1 := by
  have hpl : ps.length ≤ N.length := by have := congrArg List.length S.pre; rw [List.length_take] at this; omega
  obtain ⟨h1, tk, rfl, hk⟩ := x.done
  have noA : ∀ b : Addr, b ∉ (cxOf CX P w K mg base N qual scope f cd A outer s H E).ex := fun b z => absurd (show b ∈ ([] : List Addr) from z) (by simp)
  refine ⟨⟨e0.mod, S.kind, rfl, rfl, Nat.le_refl _, fun y z c h1 h2 => ?_, fun y hy => ?_, fun y c _ h => ?_, fun _ => hd, Around.frames_deeper e0.frames, .inr ⟨rfl, rfl⟩, fun b z => absurd z (noA b), e0.bs, e0.bsz, fun b _ _ => noA b, fun b z => absurd z (noA b), e0.funs, e0.frf⟩,
    rfl, e0.bare, Un.kept hk, ⟨_, x.toInCall.ns, fun i y v h1 h2 h3 => ?_⟩, fun y c h => ⟨_, x.cell y c h⟩, e0.hok.fresh (Nat.le_refl _), fun y c h => ?_, fun p hp => absurd (show p ∈ ([] : List (Addr × Obj)) from hp) (by simp), e0.hok.kept hk, ?_⟩
  · exact name_of_addr x.apart (PySem.mem_of_lookup h1) (PySem.mem_of_lookup h2)
  · have hy : scope.names.lookup y = some .cell ∨ scope.names.lookup y = some .free := hy
    rcases hy with hy | hy
    · exact cell_has hy
    · exact absurd rfl (S.nofree _ (PySem.mem_of_lookup hy))
  · exact Nat.le_of_lt (x.above y c (PySem.mem_of_lookup h))
  · have hi : i < vs.length := by
      unfold start at h2
      by_cases hi : i < vs.length
      · exact hi
      · rw [List.getElem?_append_right (by simpa using hi)] at h2
        rw [List.getElem?_replicate] at h2
        split at h2 <;> cases h2
    have ha : vs[i]? = some v := by
      unfold start at h2
      rw [List.getElem?_append_left (by simpa using hi), List.getElem?_map] at h2
      cases e : vs[i]? with
      | none => rw [e] at h2; cases h2
      | some a => rw [e] at h2; cases h2; rfl
    obtain ⟨u, hu, rv⟩ := r.get ha
    have hp : ps[i]? = some y := by
      rw [← S.pre, List.getElem?_take_of_lt (by omega)]; exact h1
    have ndP : ps.Nodup := by rw [← S.pre]; exact S.nd.sublist (List.take_sublist _ _)
    refine ⟨u, rv, ?_⟩
    rcases S.par y (List.mem_of_getElem? hp) with k | k
    · exact .inl ⟨k, bindL_get ndP hp hu k⟩
    · obtain ⟨c, e⟩ := cell_has (n := s.heap.objs.size + 1) k
      refine .inr ⟨.inl k, c, e, ?_⟩
      have q := x.cell y c e
      rw [bindC_get ndP hp hu (by show scope.names.lookup y ≠ _; rw [k]; decide)] at q
      exact q
  · exact e0.hok.fresh (Nat.le_of_lt (x.above y c (PySem.mem_of_lookup h)))
  · unfold start
    show _ = N.length
    rw [List.length_append, List.length_map, List.length_replicate]
    omega
theorem fn_of {CX : CXT} {P : Program} {w : World} {K : PySem.W.Frag} {mg : Str → Option Value} {base : Heap} {k : Nat} {f : Addr} {name qual : Str} {params : Arguments} {body : List Stmt} {scope : Scope} {dV kV doc pm cdv ct oc : Value} {an od : Option Addr}
    {osl : Array (Option Value)} {N ps : List Str} {sp : Sp} (lk : K.lookup f = some ⟨oc, od, .func (PySem.W.fnOf name qual params body scope dV kV doc pm an cdv ct), osl⟩) (hcd : PySem.W.codeIn K cdv qual = true) (S : FnScope N ps scope)
    (len : ∀ vs H Q E, sp vs H Q E → vs.length = ps.length)
    (hbody : ∀ (A : Around) (outer : List Env) (s : Shared) (H : Hp) (vs : List V) (Q : VK) (E : XK), Room k (A.deeper (envOfC qual scope s.heap.objs.size f cdv)) → sp vs H Q E →
      ∃ t, PSs (cxOf CX P w K mg base N qual scope f cdv A outer s H E) body t ∧ t { nx := fun _ H' => Q .non H', rt := Q } (start N vs) H) :
    FnOk P w K mg base CX (k + 1) f (PySem.W.fnOf name qual params body scope dV kV doc pm an cdv ct) ps sp := by
  refine ⟨len, fun A outer s H args us vs Q E hr e0 hb r hsp => ?_⟩
  have hl := len _ _ _ _ hsp
  have KX : K.In s.heap := e0.mod.kin.keeps fun b o e => (e0.bs b o e).1
  have lim : s.heap.NoLimit := e0.mod.nolimit.keeps fun b o e => (e0.bs b o e).1
  have hkind : ∀ y ∈ ps.zip us, scope.names.lookup y.1 = some .local ∨ (scope.names.lookup y.1 = some .cell ∧ ((cellsFrom (s.heap.objs.size + 1) scope.names []).lookup y.1).isSome = true) := fun ⟨n, v⟩ hy => by
    rcases S.par n (List.of_mem_zip hy).1 with q | q
    · exact .inl q
    · exact .inr ⟨q, PySem.W.cellsFrom_some _ _ _ (.inl q)⟩
  refine codeAny_call_function hr.depth (KX _ _ lk) rfl S.co S.gen rfl (PySem.W.codeRec_of KX hcd) (hb _ _ _ _ ?_)
  refine wpAny_newFunctionEnv_cells S.kind hkind fun env he s1 x => ?_
  subst he
  refine ⟨lim.keeps x.toInCall.keep, codeAny_func ?_⟩
  obtain ⟨t, ht, hq⟩ := hbody A outer s H vs Q E (hr.deeper _) hsp
  have I : Inv (cxOf CX P w K mg base N qual scope f cdv A outer s H E) [] (start N vs) H s1 := inv_start S hr.hd e0 hl r x
  refine wpAny_mono (ht [] s1 (start N vs) H _ I hq) (fun fl s' hs => ?_) fun e s' hs => hs
  have fin : ∀ {σ' : St} {H' : Hp} {v : V} {u : Value}, Inv (cxOf CX P w K mg base N qual scope f cdv A outer s H E) [] σ' H' s' → RelV v u → Q v H' → CE outer P w H s Q u s' :=
    fun {σ' H' v u} J rv q => ⟨v, H', J.os, J.bare, J.base, J.hok, rv, q⟩
  cases fl with
  | ret u =>
    obtain ⟨v, σ', H', J, rv, q⟩ := hs
    exact fin J rv q
  | next =>
    obtain ⟨σ', H', J, q⟩ := hs
    exact fin (v := V.non) (u := Value.none) J rfl q
  | brk =>
    obtain ⟨_, _, _, q⟩ := hs
    exact False.elim q
  | cont =>
    obtain ⟨_, _, _, q⟩ := hs
    exact False.elim q
end L2
namespace L2
open PySem PySem.Spec PyProof.Rows
section
variable {X : Cx} {x : Str} {p pos : Pos} {e : Expr} {es : List Expr} {t : TA} {id T : String} {r : List V → Hp → VK → Prop}
def tCB (r : List V → Hp → VK → Prop) (t : TA) : TE := fun σ H Q => t σ H fun vs H1 => r vs H1 Q
theorem pe_callB (hc : CallR X (.builtin id) r) (hg : Gl X x) (hm : X.mg x = none) (hv : bootBuiltins x = some (.builtin id)) (ha : PA X (e :: es) t) (hn : x ≠ "__name__" := by decide) (hdb : (x == ("__debug__" : Str)) = false := by decide)
    (he : starEach (e :: es) X.env = (false, eval e X.env) :: starEach es X.env := by rfl) (hpl : (backTo pos (starEach es X.env)).any (·.1) = false := by rfl) : PE X (.Call (.Name x p) (e :: es) [] pos) (tCB r t) := by
  intro pins s σ H Q I h
  refine wpAny_Call_Name_kw (ld_blt I hg hm hv ?_ hn hdb)
  exact PyProof.Rows.callWith_builtin1 (thn (ha pos pins s σ H _ I h) fun us s1 ⟨vs, H1, I1, r1, q1⟩ => hc pins s1 σ H1 vs us Q I1 r1 q1) he hpl
end
end L2
namespace HT
open PySem PyProof.Rows
section
open PySem.SeqAt
open PySem.AutoSeq1 (wpAny_loadPart')
open PySem.MeetsSeq PySem.MeetsSeq2 PySem.MeetsSeq3
end
section
variable {prog : Program} {w : World} {A : Around} {E : Value → Shared → Prop} {s : Shared}
def sIx (n d : Nat) : Option Int → Nat
  | none => d
  | some v => if v < 0 then (v + (n : Int)).toNat else min v.toNat n
theorem sIx_none (n d : Nat) : sIx n d none = d := rfl
theorem sIx_nat (n d k : Nat) : sIx n d (some (k : Int)) = min k n := by
  show (if (k : Int) < 0 then ((k : Int) + (n : Int)).toNat else min (k : Int).toNat n) = min k n
  rw [if_neg (by omega), Int.toNat_natCast]
end
end HT
namespace L2
open PySem PySem.Spec PyProof.Rows
abbrev TO := St → Hp → (Option Int → Hp → Prop) → Prop
def PO (X : Cx) (e : Option Expr) (t : TO) : Prop :=
  ∀ (pins : List (Addr × Obj)) (s : Shared) (σ : St) (H : Hp) (Q : Option Int → Hp → Prop), Inv X pins σ H s → t σ H Q →
    wpAny (model X.prog X.w) X.A (evalPart e X.env) (fun u s' => ∃ o H', Inv X pins σ H' s' ∧ IsPart u o ∧ Q o H') X.xe s
def tNoPart : TO := fun _ H Q => Q none H
def tPart (t : TE) : TO := fun σ H Q => t σ H fun x H1 => ∃ i, x = .int i ∧ Q (some i) H1
section
variable {X : Cx} {e : Expr} {te : TE} {lo hi : Option Expr} {tl th : TO} {pos p2 : Pos}
theorem po_none : PO X none tNoPart := by
  intro pins s σ H Q I h
  rw [evalPart_none]
  exact wpAny_pure ⟨none, H, I, .none, h⟩
theorem po_some (h : PE X e te) : PO X (some e) (tPart te) := by
  intro pins s σ H Q I hw
  rw [evalPart_some]
  refine thn (h pins s σ H _ I hw) fun u s1 ⟨x, H1, I1, r1, q1⟩ => ?_
  obtain ⟨i, rfl, q⟩ := q1
  obtain ⟨t, rfl⟩ := r1
  exact ⟨some i, H1, I1, .int i t, q⟩
def SlR (X : Cx) (r : V → Option Int → Option Int → Hp → VK → Prop) : Prop :=
  ∀ (pins : List (Addr × Obj)) (s : Shared) (σ : St) (H : Hp) (x : V) (v vl vu : Value) (lo hi : Option Int) (sl : Addr) (Q : VK), Inv X pins σ H s → RelV x v → s.heap.IsSliceOf sl vl vu .none → IsPart vl lo → IsPart vu hi → r x lo hi H Q →
    ∃ T id, typeLookup (.type T) "__getitem__" = pure (some (.builtin id)) ∧ s.TypeIs v T ∧ wpAny (model X.prog X.w) X.A (getItem v (.ref sl)) (EP X pins σ Q) X.xe s
def tSl (r : V → Option Int → Option Int → Hp → VK → Prop) (te : TE) (tl th : TO) : TE := fun σ H Q => te σ H fun x H1 => tl σ H1 fun l H2 => th σ H2 fun u H3 => r x l u H3 Q
theorem pe_slice {r : V → Option Int → Option Int → Hp → VK → Prop} (hr : SlR X r) (he : PE X e te) (hl : PO X lo tl) (hu : PO X hi th) : PE X (.Subscript e (.Slice lo hi none p2) pos) (tSl r te tl th) := by
  intro pins s σ H Q I h
  refine Subscript_ (thn (he pins s σ H _ I h) fun v s1 ⟨x, H1, I1, r1, q1⟩ => ?_)
  refine wpAny_Slice (thn (hl pins s1 σ H1 _ I1 q1) fun vl s2 ⟨l, H2, I2, pl, q2⟩ => thn (hu pins s2 σ H2 _ I2 q2) fun vu s3 ⟨u, H3, I3, pu, q3⟩ => ?_)
  rw [evalPart_none]
  refine wpAny_pure ?_
  have I4 : Inv X pins σ H3 { s3 with heap := s3.heap.push { cls := .type "slice", data := .fields #[vl, vu, .none] } } := I3.kept (t' := s3.toks) fun b ob q => Heap.get?_push_of_some _ q
  obtain ⟨T, id, hT, ht, hg⟩ := hr pins { s3 with heap := s3.heap.push { cls := .type "slice", data := .fields #[vl, vu, .none] } } σ H3 x v vl vu l u s3.heap.objs.size Q I4 r1 (Heap.IsSliceOf.new ..) pl pu q3
  show wpAny (model X.prog X.w) X.A (subscriptTail e (.Slice lo hi none p2) v (.ref s3.heap.objs.size)) (EP X pins σ Q) X.xe { s3 with heap := s3.heap.push { cls := .type "slice", data := .fields #[vl, vu, .none] } }
  exact tail_any (ops := [.ref s3.heap.objs.size, v]) ht hT hg (by with_unfolding_all rfl)
def cutV (xs : List V) (lo hi : Option Int) : List V := (xs.drop (HT.sIx xs.length 0 lo)).take (HT.sIx xs.length xs.length hi - HT.sIx xs.length 0 lo)
theorem cutV_length (xs : List V) (lo hi : Option Int) : (cutV xs lo hi).length ≤ xs.length := by
  unfold cutV
  rw [List.length_take, List.length_drop]
  omega
end
end L2
namespace L2
open PySem PySem.Spec PyProof.Rows
def ixN (n : Nat) (i : Int) : Option Nat := if 0 ≤ i then (if i < n then some i.toNat else none) else if -(n : Int) ≤ i then some (i + n).toNat else none
def atI {α : Type} (xs : List α) (i : Int) : Option α := (ixN xs.length i).bind fun j => xs[j]?
theorem ixN_seq {n : Nat} {i : Int} {j : Nat} (h : ixN n i = some j) : seqIndex? i n = some j ∧ j < n ∧ -(n : Int) ≤ i ∧ i < n := by
  unfold ixN at h
  by_cases h0 : 0 ≤ i
  · rw [if_pos h0] at h
    by_cases h1 : i < n
    · rw [if_pos h1] at h
      have e : i.toNat = j := Option.some.inj h
      exact ⟨by rw [seqIndex_of h0 h1, e], by omega, by omega, h1⟩
    · rw [if_neg h1] at h; cases h
  · rw [if_neg h0] at h
    by_cases h1 : -(n : Int) ≤ i
    · rw [if_pos h1] at h
      have e : (i + n).toNat = j := Option.some.inj h
      exact ⟨by rw [seqIndex_neg (by omega) h1, e], by omega, h1, by omega⟩
    · rw [if_neg h1] at h; cases h
theorem atI_get {α : Type} {xs : List α} {i : Int} {v : α} (h : atI xs i = some v) : ∃ j, seqIndex? i xs.length = some j ∧ xs[j]? = some v ∧ j < xs.length ∧ -(xs.length : Int) ≤ i ∧ i < xs.length := by
  unfold atI at h
  cases e : ixN xs.length i with
  | none => rw [e] at h; cases h
  | some j =>
    rw [e] at h
    obtain ⟨h1, h2, h3, h4⟩ := ixN_seq e
    exact ⟨j, h1, h, h2, h3, h4⟩
theorem atI_nat {α : Type} {xs : List α} {j : Nat} {v : α} (h : xs[j]? = some v) : atI xs (j : Int) = some v := by
  have hj : j < xs.length := (List.getElem?_eq_some_iff.mp h).1
  have e : ixN xs.length (j : Int) = some j := by
    unfold ixN
    rw [if_pos (by omega), if_pos (by omega)]; simp
  unfold atI; rw [e]; exact h
def PlainIx (b : Expr) : Prop := ∀ o i, subscripted b false o i = operate [o, i] (getItem o i)
def IxR (X : Cx) (r : R2) : Prop :=
  ∀ (value slice : Expr) (pins : List (Addr × Obj)) (s : Shared) (σ : St) (H : Hp) (x y : V) (v u : Value) (Q : VK), Inv X pins σ H s → RelV x v → RelV y u → r x y H Q →
    subscripted slice false v u = operate [v, u] (getItem v u) → wpAny (model X.prog X.w) X.A (subscriptTail value slice v u) (EP X pins σ Q) X.xe s
def MtR (X : Cx) (id : String) (r : V → List V → Hp → VK → Prop) : Prop :=
  ∀ (pins : List (Addr × Obj)) (s : Shared) (σ : St) (H : Hp) (x : V) (xs : List V) (v : Value) (us : List Value) (Q : VK), Inv X pins σ H s → RelV x v → Vals xs us → r x xs H Q →
    wpAny (model X.prog X.w) X.A (call (.builtin id) (v :: us)) (EP X pins σ Q) X.xe s
section
variable {X : Cx} {a b : Expr} {ta tb : TE} {pos : Pos}
theorem pe_ix {r : R2} (hr : IxR X r) (ha : PE X a ta) (hb : PE X b tb) (hs : PlainIx b) : PE X (.Subscript a b pos) (tOp r ta tb) := by
  intro pins s σ H Q I h
  exact Subscript_ (binT ha hb I h fun v u s2 x y H2 I2 rx ry q => hr a b pins s2 σ H2 x y v u Q I2 rx ry q (hs _ _))
def rIxL (K : PySem.W.Frag) : R2 := fun x y H Q => ∃ p xs i v, x = .ref p ∧ y = .int i ∧ SqL K H p xs ∧ atI xs i = some v ∧ Q v H
def rIxT (K : PySem.W.Frag) : R2 := fun x y H Q => ∃ p xs i v, x = .ref p ∧ y = .int i ∧ SqT K H p xs ∧ atI xs i = some v ∧ Q v H
theorem ix_list : IxR X (rIxL X.K) := by
  intro value slice pins s σ H x y v u Q I rx ry h hs
  obtain ⟨p, xs, i, z, rfl, rfl, hq, he, q⟩ := h
  cases rx
  obtain ⟨t, rfl⟩ := ry
  obtain ⟨its, r, pl, hz⟩ := I.list hq
  obtain ⟨j, h1, h2, h3, h4, h5⟩ := atI_get he
  obtain ⟨w, ew, rw'⟩ := r.get h2
  have hl := r.length
  have hn := line63
  have fin : EP X pins σ Q w s := ⟨z, H, I, rw', q⟩
  by_cases h0 : 0 ≤ i
  · have hj : i.toNat = j := by
      rw [seqIndex_of h0 h5] at h1
      exact Option.some.inj h1
    exact item_listR pl.isList h0 (by omega) (by rw [hj]; simpa using ew) fin hs
  · have hj : (i + (its.toArray.size : Int)).toNat = j := by
      rw [seqIndex_neg (by omega) h4] at h1
      rw [List.size_toArray, ← hl]
      exact Option.some.inj h1
    exact subscriptTail_builtinR (x := w) pl.isList.typeIs slot_list_getitem.lookup
      (wpAny_getItem_list_neg (Q := fun r s' => r = w ∧ EP X pins σ Q r s') pl.isList (by omega) (by rw [List.size_toArray] <;> omega) (by omega) (by rw [hj]; simpa using ew) ⟨rfl, fin⟩) hs
theorem ix_tup : IxR X (rIxT X.K) := by
  intro value slice pins s σ H x y v u Q I rx ry h hs
  obtain ⟨p, xs, i, z, rfl, rfl, hq, he, q⟩ := h
  cases rx
  obtain ⟨t, rfl⟩ := ry
  obtain ⟨its, r, pl, hz⟩ := I.tuple hq
  obtain ⟨j, h1, h2, h3, h4, h5⟩ := atI_get he
  obtain ⟨w, ew, rw'⟩ := r.get h2
  have hl := r.length
  have hn := line63
  have fin : EP X pins σ Q w s := ⟨z, H, I, rw', q⟩
  exact subscriptTail_builtinR (x := w) pl.typeIs slot_tuple_getitem.lookup
    (getItem_tuple (j := j) (Q := fun r s' => r = w ∧ EP X pins σ Q r s') pl (by omega) (by omega) (by rw [List.size_toArray, ← hl]; exact h1) (by simpa using ew) ⟨rfl, fin⟩) hs
theorem mapSeq_set (its : List Value) (n j : Nat) (u : Value) : Obj.mapSeq (·.setIfInBounds j u) { cls := .type "list", data := .seq its.toArray n } = { cls := .type "list", data := .seq (its.set j u).toArray n } := by
  simp [Obj.mapSeq]
theorem Inv.lst {pins : List (Addr × Obj)} {σ : St} {H : Hp} {s : Shared} {p : Addr} {xs : List V} (I : Inv X pins σ H s) (h : H p = some (.lst xs)) :
    ∃ (its : List Value) (n : Nat), Vals xs its ∧ s.heap.get? p = some { cls := .type "list", data := .seq its.toArray n } ∧ xs.length ≤ sizeLine := by
  obtain ⟨z, its, n, r, e⟩ := I.hok p _ h
  exact ⟨its, n, r, e, z⟩
theorem Inv.lstUpd {pins : List (Addr × Obj)} {σ : St} {H : Hp} {s : Shared} {p : Addr} {xs ys : List V} {its its' : List Value} {n n' : Nat} {f : Obj → Obj} (I : Inv X pins σ H s) (h : H p = some (.lst xs))
    (ho : s.heap.get? p = some { cls := .type "list", data := .seq its.toArray n }) (hf : f { cls := .type "list", data := .seq its.toArray n } = { cls := .type "list", data := .seq its'.toArray n' }) (r : Vals ys its') (hz : ys.length ≤ sizeLine) (t : Nat) :
    Inv X pins σ (upd H p (.lst ys)) { s with heap := s.heap.update p f, toks := t } := by
  have e : (s.heap.update p f).get? p = some { cls := .type "list", data := .seq its'.toArray n' } := by
    rw [Heap.get?_update_self f ho (by rw [hf] <;> rfl), hf]
  refine I.write (x := p) (e := p) (by rw [h]; trivial) (.inl rfl) (fun b u hb q => (Heap.get?_update_other _ _ (Ne.symm hb)).trans q) ⟨_, e⟩ ?_
  exact ⟨hz, its', n', r, e⟩
def rSetL : V → V → V → Hp → (Hp → Prop) → Prop := fun o i v H Q => ∃ p xs k j, o = .ref p ∧ i = .int k ∧ H p = some (.lst xs) ∧ ixN xs.length k = some j ∧ Q (upd H p (.lst (xs.set j v)))
theorem set_list : PSet X rSetL := by
  intro pins s σ H o i v ov iv u Q I ro ri rv h
  obtain ⟨p, xs, k, j, rfl, rfl, hp, hj, q⟩ := h
  cases ro
  obtain ⟨t, rfl⟩ := ri
  obtain ⟨its, n, r, ho, hz⟩ := I.lst hp
  obtain ⟨h1, h2, h3, h4⟩ := ixN_seq hj
  have hl := r.length
  have hn := line63
  have I' : Inv X pins σ (upd H p (.lst (xs.set j v))) { s with heap := s.heap.update p (Obj.mapSeq (·.setIfInBounds j u)) } :=
    I.lstUpd hp ho (mapSeq_set its n j u) (r.set rv j) (by rw [List.length_set]; exact hz) s.toks
  by_cases h0 : 0 ≤ k
  · have hk : k.toNat = j := by
      rw [seqIndex_of h0 h4] at h1
      exact Option.some.inj h1
    exact PySem.W.ki_setAt ho h0 (by omega) (by rw [List.size_toArray, ← hl]; exact h4) (by rw [hk]; exact ⟨_, I', q⟩)
  · have hk : (k + (its.toArray.size : Int)).toNat = j := by
      rw [seqIndex_neg (by omega) h3] at h1
      rw [List.size_toArray, ← hl]
      exact Option.some.inj h1
    exact PySem.W.ki_setBack ho (by omega) (by rw [List.size_toArray, ← hl]; exact h3) (by omega) (by rw [hk]; exact ⟨_, I', q⟩)
theorem slice_bounds (lo hi : Option Int) (n : Nat) : (sliceBounds lo hi none n).1 = ((HT.sIx n 0 lo : Nat) : Int) ∧ (sliceBounds lo hi none n).2.1 = ((HT.sIx n n hi : Nat) : Int) ∧ (sliceBounds lo hi none n).2.2 = 1 := by
  refine ⟨?_, ?_, rfl⟩
  · cases lo with
    | none => simp [sliceBounds, HT.sIx]
    | some i =>
      simp only [sliceBounds, HT.sIx, Option.getD_none, show (1 : Int) > 0 by decide, if_true]
      by_cases h : i < 0
      · simp only [h, if_true] <;> omega
      · simp only [h, if_false] <;> omega
  · cases hi with
    | none => simp [sliceBounds, HT.sIx]
    | some i =>
      simp only [sliceBounds, HT.sIx, Option.getD_none, show (1 : Int) > 0 by decide, if_true]
      by_cases h : i < 0
      · simp only [h, if_true] <;> omega
      · simp only [h, if_false] <;> omega
theorem slicePick_cut (its : List Value) (lo hi : Option Int) : slicePick its.toArray lo hi none = ((its.drop (HT.sIx its.length 0 lo)).take (HT.sIx its.length its.length hi - HT.sIx its.length 0 lo)).toArray := by
  obtain ⟨h1, h2, h3⟩ := slice_bounds lo hi its.toArray.size
  unfold slicePick
  rw [h1, h2, h3]
  simp only [sliceRange_one, pick_run, List.size_toArray] <;> rfl
def rSlL (K : PySem.W.Frag) : V → Option Int → Option Int → Hp → VK → Prop := fun x lo hi H Q => ∃ a xs, x = .ref a ∧ SqL K H a xs ∧ ∀ p, H p = none → Q (.ref p) (upd H p (.lst (cutV xs lo hi)))
theorem sl_list : SlR X (rSlL X.K) := by
  intro pins s σ H x v vl vu lo hi sl Q I rx hs pl pu h
  obtain ⟨a, xs, rfl, hx, q⟩ := h
  cases rx
  obtain ⟨its, r, ht, hz⟩ := I.list hx
  have hlen := r.length
  refine ⟨"list", _, slot_list_getitem.lookup, ht.isList.typeIs, ?_⟩
  refine wpAny_getItem_list_slice ht.isList hs pl pu .none (by simp) ?_ (by rw [List.size_toArray] <;> omega)
  rw [slicePick_cut, ← hlen]
  refine ⟨.ref s.heap.objs.size, _, I.laid (t' := s.toks) (o := .lst (cutV xs lo hi)) (fun b ob q => Heap.get?_push_of_some _ q) (Nat.le_refl _) ?_, rfl, q _ (I.hok.fresh (Nat.le_refl _))⟩
  exact ⟨Nat.le_trans (cutV_length xs lo hi) hz, _, 0, (r.drop (HT.sIx xs.length 0 lo)).take (HT.sIx xs.length xs.length hi - HT.sIx xs.length 0 lo), Heap.get?_push_size _ rfl⟩
def flatV : V → Bool
  | .non => true
  | .bl _ => true
  | .int _ => true
  | .str _ => true
  | _ => false
def eqV : V → V → Bool
  | .non, .non => true
  | .bl a, .bl b => a == b
  | .bl a, .int b => (if a then 1 else 0) == b
  | .int a, .bl b => a == (if b then 1 else 0)
  | .int a, .int b => a == b
  | .str a, .str b => a == b
  | _, _ => false
theorem eqAt_V {A : Around} {s : Shared} {y x : V} {u v : Value} (ry : RelV y u) (rx : RelV x v) (fy : flatV y = true) (fx : flatV x = true) : SeqAt.EqAt A s u v (eqV y x) := by
  cases y with
  | non =>
    cases ry
    cases x with
    | non => cases rx; exact SeqAt.EqAt.same _
    | bl b => cases rx; exact SeqAt.EqAt.none_bool b
    | int b => obtain ⟨t, rfl⟩ := rx; exact SeqAt.EqAt.none_int b t
    | str b => obtain ⟨t, rfl⟩ := rx; exact SeqAt.EqAt.none_str b t
    | _ => exact absurd (show false = true from fx) Bool.false_ne_true
  | bl a =>
    cases ry
    cases x with
    | non => cases rx; exact SeqAt.EqAt.bool_none a
    | bl b => cases rx; exact SeqAt.EqAt.bool_bool a b
    | int b => obtain ⟨t, rfl⟩ := rx; exact SeqAt.EqAt.bool_int a b t
    | str b => obtain ⟨t, rfl⟩ := rx; exact SeqAt.EqAt.bool_str a b t
    | _ => exact absurd (show false = true from fx) Bool.false_ne_true
  | int a =>
    obtain ⟨t', rfl⟩ := ry
    cases x with
    | non => cases rx; exact SeqAt.EqAt.int_none a t'
    | bl b => cases rx; exact SeqAt.EqAt.int_bool a t' b
    | int b => obtain ⟨t, rfl⟩ := rx; exact SeqAt.EqAt.int_int a t' b t
    | str b => obtain ⟨t, rfl⟩ := rx; exact SeqAt.EqAt.int_str a t' b t
    | _ => exact absurd (show false = true from fx) Bool.false_ne_true
  | str a =>
    obtain ⟨t', rfl⟩ := ry
    cases x with
    | non => cases rx; exact SeqAt.EqAt.str_none a t'
    | bl b => cases rx; exact SeqAt.EqAt.str_bool a t' b
    | int b => obtain ⟨t, rfl⟩ := rx; exact SeqAt.EqAt.str_int a t' b t
    | str b => obtain ⟨t, rfl⟩ := rx; exact SeqAt.EqAt.str_str a t' b t
    | _ => exact absurd (show false = true from fx) Bool.false_ne_true
  | _ => exact absurd (show false = true from fy) Bool.false_ne_true
def eqU (x : V) (u : Value) : Bool := match u with
  | .none => eqV .non x
  | .bool b => eqV (.bl b) x
  | .int i _ => eqV (.int i) x
  | .str z _ => eqV (.str z) x
  | _ => false
theorem eqU_of {x y : V} {u : Value} (r : RelV y u) (f : flatV y = true) : eqU x u = eqV y x := by
  cases y with
  | non => cases r; rfl
  | bl b => cases r; rfl
  | int i => obtain ⟨t, rfl⟩ := r; rfl
  | str z => obtain ⟨t, rfl⟩ := r; rfl
  | _ => exact absurd (show false = true from f) Bool.false_ne_true
theorem any_eqU {x : V} : ∀ {xs : List V} {us : List Value}, Vals xs us → xs.all flatV = true → us.any (eqU x) = xs.any fun y => eqV y x
  | _, _, .nil, _ => rfl
  | y :: xs, u :: us, .cons r t, f => by
    rw [List.all_cons, Bool.and_eq_true] at f
    rw [List.any_cons, List.any_cons, eqU_of r f.1, any_eqU t f.2]
theorem mem_eqAt {A : Around} {s : Shared} {x : V} {v : Value} (rx : RelV x v) (fx : flatV x = true) : ∀ {xs : List V} {us : List Value}, Vals xs us → xs.all flatV = true → ∀ u ∈ us, SeqAt.EqAt A s u v (eqU x u)
  | _, _, .nil, _ => fun u hu => by cases hu
  | y :: xs, u :: us, .cons r t, f => fun u' hu => by
    rw [List.all_cons, Bool.and_eq_true] at f
    rcases List.mem_cons.mp hu with rfl | hu
    · rw [eqU_of r f.1]; exact eqAt_V r rx f.1 fx
    · exact mem_eqAt rx fx t f.2 u' hu
def inV (x : V) (xs : List V) : Bool := xs.any fun y => eqV y x
def rIn (K : PySem.W.Frag) (neg : Bool) : R2 := fun x y H Q => ∃ p xs, y = .ref p ∧ (SqL K H p xs ∨ SqT K H p xs) ∧ flatV x = true ∧ xs.all flatV = true ∧ Q (.bl (if neg then !inV x xs else inV x xs)) H
theorem op_in_seq : OpR X (compareOp .In) (rIn X.K false) := by
  intro pins s σ H x y v u Q I rx ry h
  obtain ⟨p, xs, rfl, hq, fx, fs, q⟩ := h
  cases ry
  rcases hq with hq | hq
  · obtain ⟨its, r, pl, hz⟩ := I.list hq
    refine SeqAt.in_listAt (eqU x) pl.isList (fun w hw => mem_eqAt rx fx r fs w (by simpa using hw)) ⟨.bl _, H, I, rfl, ?_⟩
    rw [show its.toArray.any (eqU x) = its.any (eqU x) by simp, any_eqU r fs]
    exact q
  · obtain ⟨its, r, pl, hz⟩ := I.tuple hq
    refine SeqAt.in_tupleAt (eqU x) pl (fun w hw => mem_eqAt rx fx r fs w (by simpa using hw)) ⟨.bl _, H, I, rfl, ?_⟩
    rw [show its.toArray.any (eqU x) = its.any (eqU x) by simp, any_eqU r fs]
    exact q
theorem call_len_seq : CallR X (.builtin "len") (fun xs H Q => ∃ p ys, xs = [.ref p] ∧ (SqL X.K H p ys ∨ SqT X.K H p ys) ∧ Q (.int ys.length) H) := by
  intro pins s σ H xs us Q I r h
  obtain ⟨p, ys, rfl, hq, q⟩ := h
  obtain ⟨u, rfl, rx⟩ := vals1 r
  cases rx
  have hn := line63
  rcases hq with hq | hq
  · obtain ⟨its, r', pl, hz⟩ := I.list hq
    have hlen := r'.length
    exact Calls.call_len_list pl.isList (by simp only [List.size_toArray] <;> omega) ⟨.int ys.length, H, I.tok _, ⟨s.toks + 1, by rw [List.size_toArray, hlen]⟩, q⟩
  · obtain ⟨its, r', pl, hz⟩ := I.tuple hq
    have hlen := r'.length
    exact len_tuple pl (by simp only [List.size_toArray] <;> omega) ⟨.int ys.length, H, I.tok _, ⟨s.toks + 1, by rw [List.size_toArray, hlen]⟩, q⟩
def tyV (K : PySem.W.Frag) (T : String) (x : V) (H : Hp) : Prop := match x with
  | .str _ => T = "str"
  | .int _ => T = "int"
  | .ref p => (T = "list" ∧ ∃ xs, SqL K H p xs) ∨ (T = "tuple" ∧ ∃ o, K.lookup p = some o ∧ o.cls = .type "tuple" ∧ o.dict = none) ∨
      (T = "dict" ∧ ((∃ kvs, H p = some (.dK kvs)) ∨ ∃ kvs, H p = some (.dT kvs))) ∨ (T = "set" ∧ ∃ S n, H p = some (.set S n))
  | _ => False
theorem tyV_is {pins : List (Addr × Obj)} {σ : St} {H : Hp} {s : Shared} {T : String} {x : V} {v : Value} (I : Inv X pins σ H s) (r : RelV x v) (ty : tyV X.K T x H) :
    s.TypeIs v T ∧ ∀ a, v = .ref a → ∃ ob, s.heap.get? a = some ob ∧ ob.dict = none := by
  cases x with
  | str z =>
    obtain ⟨t, rfl⟩ := r
    cases (show T = "str" from ty)
    exact ⟨typeIs_str s z t, fun _ e => nomatch e⟩
  | int i =>
    obtain ⟨t, rfl⟩ := r
    cases (show T = "int" from ty)
    exact ⟨typeIs_int s i t, fun _ e => nomatch e⟩
  | ref p =>
    cases r
    rcases ty with ⟨rfl, xs, hq⟩ | ⟨rfl, o, hk, hc, hd⟩ | ⟨rfl, hk⟩ | ⟨rfl, S, n, hk⟩
    · obtain ⟨its, _, pl, _⟩ := I.list hq
      refine ⟨pl.isList.typeIs, fun a e => ?_⟩
      cases e
      obtain ⟨o, n, e, c, hd, _⟩ := pl
      exact ⟨o, e, hd⟩
    · refine ⟨⟨o, I.kIn p o hk, hc⟩, fun a e => ?_⟩
      cases e
      exact ⟨o, I.kIn _ o hk, hd⟩
    · have z : ∃ o, s.heap.get? p = some o ∧ o.ExactDict := by
        rcases hk with ⟨kvs, hk⟩ | ⟨kvs, hk⟩
        · obtain ⟨_, _, _, _, o, _, _, e, ex, _⟩ := I.hok p _ hk
          exact ⟨o, e, ex⟩
        · obtain ⟨_, _, _, _, o, _, _, e, ex, _⟩ := I.hok p _ hk
          exact ⟨o, e, ex⟩
      obtain ⟨o, e, ex⟩ := z
      refine ⟨⟨o, e, ex.1⟩, fun a e2 => ?_⟩
      cases e2
      exact ⟨o, e, ex.2.1⟩
    · obtain ⟨o, _, _, _, e, ex, _⟩ := I.hok p _ hk
      refine ⟨⟨o, e, ex.1⟩, fun a e2 => ?_⟩
      cases e2
      exact ⟨o, e, ex.2.1⟩
  | _ => exact False.elim ty
def tBM (K : PySem.W.Frag) (T : String) (r : V → List V → Hp → VK → Prop) (to : TE) (t : TA) : TE := fun σ H Q => to σ H fun x H1 => tyV K T x H1 ∧ t σ H1 fun xs H2 => r x xs H2 Q
variable {o e : Expr} {es : List Expr} {to : TE} {t : TA} {name : Str} {apos cpos : Pos} {T id : String} {r : V → List V → Hp → VK → Prop}
theorem pe_bm (pa : PlainAttrs T) (slot : Slot T name id) (hty : typeOf (.builtin id) = pure (.type "method_descriptor")) (hm : MtR X id r) (ho : PE X o to) (ha : PA X (e :: es) t)
    (hbase : attributeBase o name X.env (eval o X.env) = eval o X.env := by rfl)
    (hfew : ((backTo cpos (starEach (e :: es) X.env)).all (fun x => !x.1) && (backToKw cpos (keywordEach [] X.env)).all (fun x => x.1.isSome)
      && decide ((e :: es).length + ([] : List Keyword).length + (if ([] : List Keyword).isEmpty then 0 else 1) < 30)) = true := by rfl)
    (hline : (apos.endLine == cpos.line) = true := by rfl) (hs : starEach (e :: es) X.env = (false, eval e X.env) :: starEach es X.env := by rfl) (hplain : (backTo cpos (starEach es X.env)).any (·.1) = false := by rfl) :
    PE X (.Call (.Attribute o name apos) (e :: es) [] cpos) (tBM X.K T r to t) := by
  intro pins s σ H Q I h
  refine wpAny_Call_method_late hbase hfew hline rfl (thn (ho pins s σ H _ I h) fun v s1 ⟨x, H1, I1, r1, ty, q1⟩ => ?_)
  obtain ⟨h1, h2⟩ := tyV_is I1 r1 ty
  refine ⟨T, id, pa, slot, hty, h1, h2, ?_⟩
  have hA := ha cpos pins s1 σ H1 _ I1 q1
  rw [hs] at hA ⊢
  refine Calls.callWith_builtin (by show (false || (backTo cpos (starEach es X.env)).any (·.1)) = false; rw [hplain] <;> rfl) (Calls.evalArgs_plain ?_)
  exact thn hA fun us s2 ⟨vs, H2, I2, r2, q2⟩ => hm pins s2 σ H2 x vs v us Q I2 r1 r2 q2
end
end L2
namespace L2
open PySem PySem.Spec PyProof.Rows
def MtM (X : Cx) (id : String) (r : V → List V → Hp → VK → Prop) : Prop :=
  ∀ (pins : List (Addr × Obj)) (s : Shared) (σ : St) (H : Hp) (x : V) (xs : List V) (v : Value) (us : List Value) (Q : VK), Inv X pins σ H s → RelV x v → Vals xs us → r x xs H Q →
    wpAny (model X.prog X.w) X.A (call (.builtin id) (v :: us)) (EP X pins σ Q) X.xe s
theorem Vals.one : ∀ {x : V} {us : List Value}, Vals [x] us → ∃ u, us = [u] ∧ RelV x u
  | _, _, .cons r .nil => ⟨_, rfl, r⟩
theorem Vals.rep {xs : List V} {us : List Value} (h : Vals xs us) : ∀ k : Nat, Vals (List.replicate k xs).flatten (List.replicate k us).flatten
  | 0 => .nil
  | k + 1 => by
    rw [List.replicate_succ, List.replicate_succ, List.flatten_cons, List.flatten_cons]
    exact Vals.append h (Vals.rep h k)
theorem foldl_rep (its : List Value) : ∀ (k : Nat) (acc : List Value),
    List.foldl (fun x1 x2 => x1 ++ x2) acc.toArray (List.replicate k its.toArray) = (acc ++ (List.replicate k its).flatten).toArray
  | 0, acc => by simp
  | k + 1, acc => by
    have e : acc.toArray ++ its.toArray = (acc ++ its).toArray := by simp
    have e2 : (acc ++ its) ++ (List.replicate k its).flatten = acc ++ (List.replicate (k + 1) its).flatten := by
      rw [List.replicate_succ, List.flatten_cons, List.append_assoc]
    rw [← e2, ← foldl_rep its k (acc ++ its), ← e, List.replicate_succ, List.foldl_cons]
section
variable {X : Cx} {pins : List (Addr × Obj)} {σ : St} {H : Hp} {s : Shared} {l b : Addr} {xs ys zs : List V}
theorem Inv.lset {its its' : List Value} {n : Nat} {f : Array Value → Array Value} {t' : Nat} (I : Inv X pins σ H s) (hH : H l = some (.lst xs))
    (e : s.heap.get? l = some { cls := .type "list", data := .seq its.toArray n }) (hf : f its.toArray = its'.toArray) (hv : Vals ys its') (hz : ys.length ≤ sizeLine) :
    Inv X pins σ (upd H l (.lst ys)) { s with heap := s.heap.update l (Obj.mapSeq f), toks := t' } := by
  have q := PySem.IsL.update e f
  rw [hf] at q
  refine I.write (x := l) (e := l) (by rw [hH]; exact trivial) (.inl rfl) (fun b' u hb hu => (Heap.get?_update_other s.heap (Obj.mapSeq f) (Ne.symm hb)).trans hu) ⟨_, q⟩ ?_
  exact ⟨hz, its', _, hv, q⟩
theorem Inv.lnew {its : List Value} {t' : Nat} (I : Inv X pins σ H s) (hv : Vals ys its) (hz : ys.length ≤ sizeLine) :
    Inv X pins σ (upd H s.heap.objs.size (.lst ys)) { s with heap := s.heap.push { cls := .type "list", data := .seq its.toArray }, toks := t' } :=
  I.laid (fun _ _ q => Heap.get?_push_of_some _ q) (Nat.le_refl _) ⟨hz, its, 0, hv, Heap.get?_push_size _ rfl⟩
theorem Inv.fresh (I : Inv X pins σ H s) : H s.heap.objs.size = none := I.hok.fresh (Nat.le_refl _)
theorem Inv.lstM (I : Inv X pins σ H s) (hH : H l = some (.lst xs)) : xs.length ≤ sizeLine ∧ ∃ (its : List Value) (n : Nat), Vals xs its ∧ xs.length = its.length ∧ s.heap.get? l = some { cls := .type "list", data := .seq its.toArray n } := by
  obtain ⟨z, its, n, r, e⟩ := I.hok l _ hH
  exact ⟨z, its, n, r, r.length, e⟩
theorem notLongL {n : Nat} (h : n ≤ sizeLine) : Builtin.List.listTooLong n = false := by
  unfold Builtin.List.listTooLong
  exact decide_eq_false (by omega)
end
section
variable {X : Cx}
def rAppend : V → List V → Hp → VK → Prop := fun x vs H Q => ∃ l xs y, x = .ref l ∧ vs = [y] ∧ H l = some (.lst xs) ∧ xs.length < sizeLine ∧ Q .non (upd H l (.lst (xs ++ [y])))
theorem mt_append : MtM X "list.append" rAppend := by
  intro pins s σ H x vs v us Q I rx rv h
  obtain ⟨l, xs, y, rfl, rfl, hH, hz, q⟩ := h
  cases rx
  obtain ⟨u, rfl, ru⟩ := rv.one
  obtain ⟨z, its, n, r, hl, e⟩ := I.lstM hH
  refine call_meets F.slot_list_append ⟨_, e, rfl⟩ F.entry_list_append (F.args_list_append_2 _ _) (PySem.list_append l its.toArray n u (by rw [List.size_toArray]; omega)) ⟨e, ?_⟩
  refine ⟨.non, _, I.lset (its' := its ++ [u]) hH e (by simp) (r.append (.cons ru .nil)) ?_, rfl, q⟩
  rw [List.length_append, List.length_singleton]
  omega
def rExtend : V → List V → Hp → VK → Prop := fun x vs H Q => ∃ l b xs zs, x = .ref l ∧ vs = [.ref b] ∧ H l = some (.lst xs) ∧ H b = some (.lst zs) ∧ xs.length + zs.length ≤ sizeLine ∧ Q .non (upd H l (.lst (xs ++ zs)))
theorem mt_extend : MtM X "list.extend" rExtend := by
  intro pins s σ H x vs v us Q I rx rv h
  obtain ⟨l, b, xs, zs, rfl, rfl, hH, hB, hz, q⟩ := h
  cases rx
  obtain ⟨u, rfl, ru⟩ := rv.one
  cases ru
  obtain ⟨z, its, n, r, hl, e⟩ := I.lstM hH
  obtain ⟨z2, its2, n2, r2, hl2, e2⟩ := I.lstM hB
  have hsz : its.toArray.size + its2.toArray.size ≤ sizeLine := by rw [List.size_toArray, List.size_toArray]; omega
  have hlong : ¬ (!its.toArray.isEmpty && Builtin.List.listTooLong (its.toArray.size + its2.toArray.size)) = true := by
    rw [notLongL hsz, Bool.and_false]
    exact Bool.false_ne_true
  refine call_meets F.slot_list_extend ⟨_, e, rfl⟩ F.entry_list_extend (F.args_list_extend_2 _ _)
    (AutoSeq1.list_extend_list_list_0 l its.toArray n b its2.toArray n2 hlong (by rw [List.size_toArray]; omega) (by omega)) ⟨e, e2, ?_⟩
  refine ⟨.non, _, I.lset (its' := its ++ its2) hH e (by simp) (r.append r2) ?_, rfl, q⟩
  rw [List.length_append]
  omega
def rCat : R2 := fun x y H Q => ∃ l b xs zs, x = .ref l ∧ y = .ref b ∧ H l = some (.lst xs) ∧ H b = some (.lst zs) ∧ xs.length + zs.length ≤ sizeLine ∧ ∀ p, H p = none → Q (.ref p) (upd H p (.lst (xs ++ zs)))
theorem op_cat : OpR X (binaryOp .Add) rCat := by
  intro pins s σ H x y v u Q I rx ry h
  obtain ⟨l, b, xs, zs, rfl, rfl, hH, hB, hz, q⟩ := h
  cases rx
  cases ry
  obtain ⟨z, its, n, r, hl, e⟩ := I.lstM hH
  obtain ⟨z2, its2, n2, r2, hl2, e2⟩ := I.lstM hB
  refine PySem.P.add_list e e2 ?_ (by rw [List.size_toArray, List.size_toArray]; omega)
  have ea : its.toArray ++ its2.toArray = (its ++ its2).toArray := by simp
  rw [ea]
  exact ⟨.ref _, _, I.lnew (t' := s.toks) (r.append r2) (by rw [List.length_append]; omega), rfl, q _ I.fresh⟩
def rRep : R2 := fun x y H Q => ∃ l k xs, x = .ref l ∧ y = .int k ∧ H l = some (.lst xs) ∧ -(2 ^ 63) ≤ k ∧ k < 2 ^ 63 ∧ xs.length * k.toNat ≤ sizeLine ∧
  ∀ p, H p = none → Q (.ref p) (upd H p (.lst (List.replicate k.toNat xs).flatten))
theorem len_rep {α : Type} (xs : List α) (k : Nat) : (List.replicate k xs).flatten.length = k * xs.length := by
  induction k with
  | zero => simp
  | succ k ih => rw [List.replicate_succ, List.flatten_cons, List.length_append, ih, Nat.succ_mul, Nat.add_comm]
theorem op_rep : OpR X (binaryOp .Mult) rRep := by
  intro pins s σ H x y v u Q I rx ry h
  obtain ⟨l, k, xs, rfl, rfl, hH, h1, h2, hz, q⟩ := h
  cases rx
  obtain ⟨t, rfl⟩ := ry
  obtain ⟨z, its, n, r, hl, e⟩ := I.lstM hH
  have hlen : its.toArray.size * k.toNat ≤ sizeLine := by rw [List.size_toArray, ← hl]; exact hz
  have hcap : ¬ its.toArray.size * k.toNat > (2 ^ 63 - 1) / 8 := by
    have : (sizeLine : Nat) ≤ (2 ^ 63 - 1) / 8 := by decide
    omega
  have hfit : ¬ (!Builtin.List.listFitsIndex k) = true := by
    rw [fitsIndex_both h1 h2]
    exact Bool.false_ne_true
  have hlong : ¬ Builtin.List.listTooLong (its.toArray.size * k.toNat) = true := by
    rw [notLongL hlen]
    exact Bool.false_ne_true
  have hnew : List.foldl (fun x1 x2 => x1 ++ x2) #[] (List.replicate (if its.toArray.isEmpty = true then 0 else k.toNat) its.toArray) = (List.replicate k.toNat its).flatten.toArray := by
    have f0 : ∀ m : Nat, List.foldl (fun x1 x2 => x1 ++ x2) #[] (List.replicate m its.toArray) = (List.replicate m its).flatten.toArray := fun m => by
      have := foldl_rep its m []
      rw [List.nil_append] at this
      exact this
    rw [f0]
    cases its with
    | nil => simp
    | cons a r' => rw [if_neg (by simp)]
  refine wpAny_binaryOp_repeat_ref (T := "list") (U := "int") (by decide) ⟨_, e, rfl⟩ (fun s' => typeIs_int s' k t) noFill_list_mul F.fills_int_mul F.slot_int_rmul repeat_list F.slot_int_index.lookup
    (call_meets F.slot_int_rmul (typeIs_int s k t) F.entry_int_rmul (F.args_int_rmul_2 _ _) (int___rmul___int_list k t l its.toArray n)
      ⟨e, rfl, ⟨_, e, rfl⟩, call_meets F.slot_list_mul ⟨_, e, rfl⟩ F.entry_list_mul (F.args_list_mul_2 _ _) (AutoListH.list___mul___list_int_3 l its.toArray n k t hfit hcap hlong) ⟨e, ?_⟩⟩)
  rw [hnew]
  exact ⟨.ref _, _, I.lnew (t' := s.toks) (r.rep k.toNat) (by rw [len_rep, Nat.mul_comm]; exact hz), rfl, q _ I.fresh⟩
end
section
variable {prog : Program} {w : World} {A : Around} {E : Value → Shared → Prop} {s : Shared}
end
section
variable {X : Cx}
end
end L2
namespace L2
open PySem PySem.Spec PyProof.Rows
theorem Vals.ints : ∀ {ns : List Int} {us : List Value}, Vals (ns.map V.int) us → IntsAre us ns
  | [], us, h => by
    rw [List.map_nil] at h
    cases h
    exact IntsAre.nil
  | n :: ns, us, h => by
    rw [List.map_cons] at h
    cases h with
    | cons r t =>
      obtain ⟨k, rfl⟩ := r
      exact IntsAre.cons n k (Vals.ints t)
theorem Vals.bls : ∀ {bs : List Bool} {us : List Value}, Vals (bs.map V.bl) us → us = bs.map Value.bool
  | [], us, h => by
    rw [List.map_nil] at h
    cases h
    rfl
  | b :: bs, us, h => by
    rw [List.map_cons] at h
    cases h with
    | cons r t =>
      cases r
      rw [Vals.bls t, List.map_cons]
theorem Vals.ref1 {a : Addr} {us : List Value} (r : Vals [V.ref a] us) : us = [Value.ref a] := by
  cases r with
  | cons r t =>
    cases t
    cases r
    rfl
section
variable {prog : Program} {w : World} {A : Around} {E : Value → Shared → Prop} {s : Shared} {l : Addr} {its : List Value} {ns : List Int} {Q : Value → Shared → Prop}
theorem sum_raw (hh : A.handled = none) (hl : s.heap.IsList l its.toArray) (hi : IntsAre its ns)
    (h : ∀ h' tk t', (∀ b o, s.heap.get? b = some o → h'.get? b = some o) → Q (.int ns.sum t') { s with heap := h', toks := tk }) : wpAny (model prog w) A (call (.builtin "sum") [.ref l]) Q E s := by
  obtain ⟨xs, e⟩ := hi.allInts.items
  have hn : numsOf (intItems xs).toList = ns := by rw [← e]; exact hi.numsOf
  rw [nums_intItems] at hn
  rw [e] at hl
  refine PySem.sum_intListG hh hl fun h' tk t' hk => ?_
  have := h h' tk t' hk
  rw [preSum_eq, List.take_of_length_le (by simp), hn]; exact this
end
section
variable {X : Cx}
def rSum (K : PySem.W.Frag) : List V → Hp → VK → Prop := fun vs H Q => ∃ (a : Addr) (ns : List Int), vs = [V.ref a] ∧ SqL K H a (ns.map V.int) ∧ Q (.int ns.sum) H
theorem cr_sum (hc : X.calm = true) : CallR X (.builtin "sum") (rSum X.K) := by
  intro pins s σ H vs us Q I r h
  obtain ⟨a, ns, rfl, hs, q⟩ := h
  obtain ⟨its, rv, hl, _⟩ := I.list hs
  rw [Vals.ref1 r]
  exact sum_raw (I.ok.hd hc) hl.isList rv.ints fun h' tk t' hk => ⟨.int _, H, I.kept hk, ⟨_, rfl⟩, q⟩
end
section
variable {X : Cx}
end
section
variable {X : Cx}
end
theorem iter_any {prog : Program} {w : World} {A : Around} {E : Value → Shared → Prop} {s : Shared} {l : Addr} {items : Array Value} {Q : Value → Shared → Prop} (hl : s.heap.IsList l items)
    (h : ∀ s₂ : Shared, s₂ = { s with heap := s.heap.push { cls := .type "list_iterator", data := .fields #[.ref l, .int 0 0] } } →
      (s₂.heap.IsListIter s.heap.objs.size l 0 ∧ s₂.heap.IsList l items) → l ≠ s.heap.objs.size → Q (.ref s.heap.objs.size) s₂) : wpAny (model prog w) A (pyIter (.ref l)) Q E s := by
  have hlt : l < s.heap.objs.size := by obtain ⟨_, e, _⟩ := hl; exact Heap.lt_size e
  exact wpAny_pyIter_list hl (h _ rfl ⟨⟨_, Heap.get?_push_size _ rfl, rfl, rfl⟩, hl.push _⟩ (Nat.ne_of_lt hlt))
theorem truth_bools {prog : Program} {w : World} {A : Around} {bs : List Bool} {its : List Value} (e : its = bs.map Value.bool) :
    TruthOf prog w A (fun i v => its.toArray[i]? = some v) (fun i => bs.getD i false) := fun i v s Q E hv hq => by
  have hv' : its[i]? = some v := by simpa using hv
  rw [e, List.getElem?_map] at hv'
  obtain ⟨b, hb, rfl⟩ := Option.map_eq_some_iff.mp hv'
  have hg : bs.getD i false = b := by rw [List.getD_eq_getElem?_getD, hb] <;> rfl
  have hq' : Q (bs.getD i false) s := hq
  rw [hg] at hq'
  exact wpAny_truthy_bool hq'
theorem any_range : ∀ bs : List Bool, (List.range bs.length).any (fun i => bs.getD i false) = bs.any id
  | [] => rfl
  | b :: bs => by
    rw [List.length_cons, List.range_succ_eq_map, List.any_cons, List.any_map, List.any_cons, ← any_range bs]
    all_goals rfl
theorem all_range : ∀ bs : List Bool, (List.range bs.length).all (fun i => bs.getD i false) = bs.all id
  | [] => rfl
  | b :: bs => by
    rw [List.length_cons, List.range_succ_eq_map, List.all_cons, List.all_map, List.all_cons, ← all_range bs]
    all_goals rfl
section
variable {X : Cx}
def rAny (K : PySem.W.Frag) : List V → Hp → VK → Prop := fun vs H Q => ∃ (a : Addr) (bs : List Bool), vs = [V.ref a] ∧ SqL K H a (bs.map V.bl) ∧ Q (.bl (bs.any id)) H
def rAll (K : PySem.W.Frag) : List V → Hp → VK → Prop := fun vs H Q => ∃ (a : Addr) (bs : List Bool), vs = [V.ref a] ∧ SqL K H a (bs.map V.bl) ∧ Q (.bl (bs.all id)) H
theorem cr_any (hc : X.calm = true) : CallR X (.builtin "any") (rAny X.K) := by
  intro pins s σ H vs us Q I r h
  obtain ⟨a, bs, rfl, hs, q⟩ := h
  obtain ⟨its, rv, hl, _⟩ := I.list hs
  rw [Vals.ref1 r]
  have hb := rv.bls
  refine call_any_walk (iter_any hl.isList fun s₂ e2 st hne => ?_)
  subst e2
  refine ⟨_, _, _, _, _, _, _, rfl, Walks.list (A := X.A.in1) (I.ok.hd hc) _ a hne its.toArray, st, truth_bools hb, fun h' tk hk => ?_⟩
  refine ⟨.bl _, H, I.kept fun b o eo => hk b o (fun hmem => ?_) (Heap.get?_push_of_some _ eo), ?_, q⟩
  · rcases List.mem_cons.mp hmem with e1 | hmem
    · exact absurd (e1 ▸ Heap.lt_size eo) (Nat.lt_irrefl _)
    · cases hmem
  · show Value.bool _ = Value.bool _
    rw [← any_range, hb, List.size_toArray, List.length_map]
theorem cr_all (hc : X.calm = true) : CallR X (.builtin "all") (rAll X.K) := by
  intro pins s σ H vs us Q I r h
  obtain ⟨a, bs, rfl, hs, q⟩ := h
  obtain ⟨its, rv, hl, _⟩ := I.list hs
  rw [Vals.ref1 r]
  have hb := rv.bls
  refine call_all_walk (iter_any hl.isList fun s₂ e2 st hne => ?_)
  subst e2
  refine ⟨_, _, _, _, _, _, _, rfl, Walks.list (A := X.A.in1) (I.ok.hd hc) _ a hne its.toArray, st, truth_bools hb, fun h' tk hk => ?_⟩
  refine ⟨.bl _, H, I.kept fun b o eo => hk b o (fun hmem => ?_) (Heap.get?_push_of_some _ eo), ?_, q⟩
  · rcases List.mem_cons.mp hmem with e1 | hmem
    · exact absurd (e1 ▸ Heap.lt_size eo) (Nat.lt_irrefl _)
    · cases hmem
  · show Value.bool _ = Value.bool _
    rw [← all_range, hb, List.size_toArray, List.length_map]
end
section
variable {X : Cx} {pins : List (Addr × Obj)} {σ : St} {H : Hp} {s : Shared}
end
section
variable {X : Cx}
end
end L2
namespace L2
open PySem PySem.Spec PyProof.Rows
abbrev CellAt (h : Heap) (c : Addr) (v : Option Value) : Prop := h.IsCell c v
def relS (scope sc : Scope) : Scope :=
  { scope with names := scope.names.map fun (n, k) => if (k == .free && sc.kind == .function && sc.names.lookup n == some .cell) then (n, .cell) else (n, k) }
def cloFrom (cells : List (Str × Addr)) : List (Str × NameKind) → List (Str × Addr) → List (Str × Addr)
  | [], acc => acc
  | (n, k) :: r, acc => if k == .free then cloFrom cells r ((n, (cells.lookup n).getD 0) :: acc) else cloFrom cells r acc
theorem closure_loop (env : Env) (f : Str × NameKind → List (Str × Addr) → Sem (ForInStep (List (Str × Addr))))
    (hf : ∀ n k c, f (n, k) c = if k == .free then (do let a ← cellOf env n; pure (.yield ((n, a) :: c))) else pure (.yield c)) :
    ∀ (names : List (Str × NameKind)) (acc : List (Str × Addr)), (∀ y ∈ names, y.2 = .free → ∃ c, env.cells.lookup y.1 = some c) → forIn names acc f = pure (cloFrom env.cells names acc)
  | [], acc, _ => by rw [List.forIn_nil]; rfl
  | (n, k) :: r, acc, h => by
    rw [List.forIn_cons, hf]
    have ih := fun acc => closure_loop env f hf r acc fun y hy => h y (List.mem_cons_of_mem _ hy)
    unfold cloFrom
    by_cases hk : (k == NameKind.free) = true
    · rw [if_pos hk, if_pos hk]
      obtain ⟨c, hc⟩ := h (n, k) List.mem_cons_self (by simpa using hk)
      have e : cellOf env n = pure c := by unfold cellOf; rw [hc]
      rw [e]
      have e2 : (env.cells.lookup n).getD 0 = c := by rw [hc]; rfl
      rw [e2]
      exact ih _
    · rw [if_neg hk, if_neg hk]
      exact ih _
theorem closure_ok {scope : Scope} {env : Env} (h : ∀ y ∈ scope.names, y.2 = .free → ∃ c, env.cells.lookup y.1 = some c) : closureFor scope env = pure (cloFrom env.cells scope.names []) := by
  simp only [closureFor]
  rw [closure_loop env _ (fun n k c => rfl) scope.names [] h]
  rfl
theorem mem_lookup {α : Type} : ∀ {l : List (Str × α)} {n : Str} {c : α}, (n, c) ∈ l → ∃ c', l.lookup n = some c'
  | (k, v) :: r, n, c, h => by
    rw [List.lookup_cons]
    cases hb : n == k with
    | true => exact ⟨_, rfl⟩
    | false =>
      rcases List.mem_cons.mp h with e | h
      · cases e; simp at hb
      · exact mem_lookup h
theorem cloFrom_mem {cells : List (Str × Addr)} : ∀ {names : List (Str × NameKind)} {acc : List (Str × Addr)} {n : Str} {c : Addr}, (n, c) ∈ cloFrom cells names acc → (n, c) ∈ acc ∨ ((n, .free) ∈ names ∧ c = (cells.lookup n).getD 0)
  | [], _, _, _, h => .inl h
  | (m, k) :: r, acc, n, c, h => by
    unfold cloFrom at h
    split at h
    · rename_i hk
      have hk : k = .free := by simpa using hk
      rcases cloFrom_mem h with h | ⟨h1, h2⟩
      · rcases List.mem_cons.mp h with e | h
        · cases e; exact .inr ⟨hk ▸ List.mem_cons_self, rfl⟩
        · exact .inl h
      · exact .inr ⟨List.mem_cons_of_mem _ h1, h2⟩
    · rcases cloFrom_mem h with h | ⟨h1, h2⟩
      · exact .inl h
      · exact .inr ⟨List.mem_cons_of_mem _ h1, h2⟩
theorem cloFrom_acc {cells : List (Str × Addr)} : ∀ {names : List (Str × NameKind)} {acc : List (Str × Addr)} {p : Str × Addr}, p ∈ acc → p ∈ cloFrom cells names acc
  | [], _, _, h => h
  | (m, k) :: r, acc, p, h => by
    unfold cloFrom
    split
    · exact cloFrom_acc (List.mem_cons_of_mem _ h)
    · exact cloFrom_acc h
theorem cloFrom_has {cells : List (Str × Addr)} : ∀ {names : List (Str × NameKind)} {acc : List (Str × Addr)} {n : Str}, (n, .free) ∈ names → (n, (cells.lookup n).getD 0) ∈ cloFrom cells names acc
  | (m, k) :: r, acc, n, h => by
    unfold cloFrom
    rcases List.mem_cons.mp h with e | h
    · cases e
      exact cloFrom_acc List.mem_cons_self
    · split
      · exact cloFrom_has h
      · exact cloFrom_has h
theorem cells_mem : ∀ {names : List (Str × NameKind)} {h : Heap} {acc : List (Str × Addr)} {x : Str} {c : Addr}, (x, c) ∈ cellsFrom h.objs.size names acc →
    (x, c) ∈ acc ∨ ((x, .cell) ∈ names ∧ h.objs.size ≤ c ∧ CellAt (pushCells h names) c none)
  | [], _, _, _, _, h => .inl h
  | (n, k) :: r, h, acc, x, c, hm => by
    unfold cellsFrom at hm
    unfold pushCells
    split at hm
    · rename_i hk
      rw [if_pos hk]
      have hk : k = .cell := by simpa using hk
      rw [← Heap.size_push h { cls := .type "cell", data := .cell none }] at hm
      rcases cells_mem hm with hm | ⟨h1, h2, h3⟩
      · rcases List.mem_cons.mp hm with e | hm
        · cases e
          exact .inr ⟨hk ▸ List.mem_cons_self, Nat.le_refl _, _, pushCells_keeps r _ _ _ (Heap.get?_push_size _ rfl), rfl⟩
        · exact .inl hm
      · rw [Heap.size_push] at h2
        exact .inr ⟨List.mem_cons_of_mem _ h1, Nat.le_of_succ_le h2, h3⟩
    · rename_i hk
      rw [if_neg hk]
      rcases cells_mem hm with hm | ⟨h1, h2, h3⟩
      · exact .inl hm
      · exact .inr ⟨List.mem_cons_of_mem _ h1, h2, h3⟩
theorem cells_acc : ∀ {names : List (Str × NameKind)} {n : Nat} {acc : List (Str × Addr)} {p : Str × Addr}, p ∈ acc → p ∈ cellsFrom n names acc
  | [], _, _, _, h => h
  | (m, k) :: r, n, acc, p, h => by
    unfold cellsFrom
    split
    · exact cells_acc (List.mem_cons_of_mem _ h)
    · exact cells_acc h
theorem cells_has : ∀ {names : List (Str × NameKind)} {n : Nat} {acc : List (Str × Addr)} {x : Str}, (x, .cell) ∈ names → ∃ c, (x, c) ∈ cellsFrom n names acc
  | (m, k) :: r, n, acc, x, h => by
    unfold cellsFrom
    rcases List.mem_cons.mp h with e | h
    · cases e
      exact ⟨n, cells_acc List.mem_cons_self⟩
    · split
      · exact cells_has h
      · exact cells_has h
theorem cells_inj : ∀ {names : List (Str × NameKind)} {h : Heap} {acc : List (Str × Addr)} {x y : Str} {c : Addr}, (∀ p ∈ acc, p.2 < h.objs.size) → (∀ x y c, (x, c) ∈ acc → (y, c) ∈ acc → x = y) →
    (x, c) ∈ cellsFrom h.objs.size names acc → (y, c) ∈ cellsFrom h.objs.size names acc → x = y
  | [], _, _, _, _, _, _, hi, h1, h2 => hi _ _ _ h1 h2
  | (n, k) :: r, h, acc, x, y, c, hl, hi, h1, h2 => by
    unfold cellsFrom at h1 h2
    split at h1
    · rename_i hk
      rw [if_pos hk] at h2
      rw [← Heap.size_push h { cls := .type "cell", data := .cell none }] at h1 h2
      refine cells_inj (h := h.push _) (fun p hp => ?_) (fun x y c a b => ?_) h1 h2
      · rw [Heap.size_push]
        rcases List.mem_cons.mp hp with rfl | hp
        · exact Nat.lt_succ_self _
        · exact Nat.lt_succ_of_lt (hl p hp)
      · rcases List.mem_cons.mp a with e | a <;> rcases List.mem_cons.mp b with e' | b
        · cases e; cases e'; rfl
        · cases e; exact absurd (hl _ b) (Nat.lt_irrefl _)
        · cases e'; exact absurd (hl _ a) (Nat.lt_irrefl _)
        · exact hi _ _ _ a b
    · rename_i hk
      rw [if_neg hk] at h2
      exact cells_inj hl hi h1 h2
theorem newEnv_comp {M : Model} {A : Around} {E : Value → Shared → Prop} {s : Shared} {scope : Scope} {globals : Addr} {closure : List (Str × Addr)} {qual : Str} {func : Option Addr} {code : Value} {around : Env} {builtins : Addr} {Q : Env → Shared → Prop}
    (h : Q (newEnv scope s.heap.objs.size globals (cellsFrom (s.heap.objs.size + 1) scope.names closure) qual func code (some around) builtins)
      { s with heap := pushCells (s.heap.push { cls := .type "dict", data := .dict #[] }) scope.names }) :
    wpAny M A (newFunctionEnv scope globals closure [] qual func code (some around) builtins) Q E s := by
  simp only [newFunctionEnv, Option.isSome_some, if_true]
  refine wpAny_bind (wpAny_alloc ?_)
  refine wpAny_bind (wpAny_layCells _ (fun n k c => rfl) scope.names closure _ _ ?_)
  rw [show ({ s with heap := s.heap.push { cls := .type "dict", data := .dict #[] } } : Shared).heap.objs.size = s.heap.objs.size + 1 from Heap.size_push ..]
  rw [List.forIn_nil]
  exact wpAny_bind (wpAny_pure (wpAny_pure h))
theorem lookup_relS {sc : Scope} : ∀ {names : List (Str × NameKind)} {x : Str} {k : NameKind},
    (names.map fun (n, k) => if (k == NameKind.free && sc.kind == .function && sc.names.lookup n == some .cell) then (n, NameKind.cell) else (n, k)).lookup x = some k →
    ∃ k', names.lookup x = some k' ∧ (k = k' ∨ (k' = .free ∧ k = .cell))
  | [], _, _, h => by simp at h
  | (n, k₀) :: r, x, k, h => by
    have ih := @lookup_relS sc r x k
    have h' : List.lookup x ((if (k₀ == NameKind.free && sc.kind == .function && sc.names.lookup n == some .cell) = true then (n, NameKind.cell) else (n, k₀)) :: (r.map _)) = some k := h
    cases hx : x == n with
    | true =>
      simp only [List.lookup_cons, hx]
      by_cases hc : (k₀ == NameKind.free && sc.kind == .function && sc.names.lookup n == some .cell) = true
      · rw [if_pos hc] at h'
        simp only [List.lookup_cons, hx] at h'
        cases h'
        simp only [Bool.and_eq_true, beq_iff_eq] at hc
        exact ⟨k₀, rfl, .inr ⟨hc.1.1, rfl⟩⟩
      · rw [if_neg hc] at h'
        simp only [List.lookup_cons, hx] at h'
        cases h'
        exact ⟨_, rfl, .inl rfl⟩
    | false =>
      simp only [List.lookup_cons, hx]
      by_cases hc : (k₀ == NameKind.free && sc.kind == .function && sc.names.lookup n == some .cell) = true
      · rw [if_pos hc] at h'
        simp only [List.lookup_cons, hx] at h'
        exact ih h'
      · rw [if_neg hc] at h'
        simp only [List.lookup_cons, hx] at h'
        exact ih h'
structure BlkOk (N : List Str) (sc scope : Scope) (own : List (Str × Nat)) : Prop where
  kind : scope.kind = .function
  uniq : ∀ y ∈ scope.names, scope.names.lookup y.1 = some y.2
  ix : ∀ p ∈ own, N[p.2]? = some p.1
  free : ∀ y ∈ scope.names, y.2 = .free → sc.names.lookup y.1 = some .cell ∨ sc.names.lookup y.1 = some .free
  own : ∀ y ∈ scope.names, y.2 = .local ∨ y.2 = .cell → y.1 ∈ own.map (·.1) ∨ y.1 ∉ N
def wipe (σ : St) : List Nat → St
  | [] => σ
  | v :: vs => (wipe σ vs).set v none
theorem wipe_length (σ : St) : ∀ vs : List Nat, (wipe σ vs).length = σ.length
  | [] => rfl
  | v :: vs => by unfold wipe; rw [List.length_set, wipe_length σ vs]
theorem wipe_some {σ : St} {i : Nat} {x : V} : ∀ {vs : List Nat}, (wipe σ vs)[i]? = some (some x) → σ[i]? = some (some x) ∧ i ∉ vs
  | [], h => ⟨h, by simp⟩
  | v :: vs, h => by
    unfold wipe at h
    by_cases hi : v = i
    · subst hi
      by_cases hv : v < (wipe σ vs).length
      · rw [List.getElem?_set_self hv] at h; cases h
      · rw [List.getElem?_eq_none (by simpa using hv)] at h; cases h
    · rw [List.getElem?_set_ne hi] at h
      obtain ⟨h1, h2⟩ := wipe_some h
      exact ⟨h1, by simp only [List.mem_cons, not_or]; exact ⟨fun e => hi e.symm, h2⟩⟩
abbrev Cx.blk (X : Cx) (s : Shared) (H : Hp) (scope : Scope) (cenv : Env) (fp : List Addr) : Cx := { X with s_0 := s, H_0 := H, env := cenv, outer := X.stack, ex := fp, fn := fun x => scope.names.lookup x == some .cell, pn := [], xe := fun _ _ => False }
section
variable {X : Cx} {pins : List (Addr × Obj)} {σ : St} {H : Hp} {s : Shared}
theorem block_start {scope : Scope} {own : List (Str × Nat)} {fp : List Addr} (I : Inv X pins σ H s) (ok : BlkOk X.N X.env.scope scope own) (hN : X.N.Nodup) (hfp : ∀ b ∈ fp, FpOk X pins H b ∧ b < s.heap.objs.size) :
    Inv (X.blk s H scope (compEnvC scope (cellsFrom (s.heap.objs.size + 1) scope.names (cloFrom X.env.cells scope.names [])) s.heap.objs.size X.env) fp) [] (wipe σ (own.map (·.2))) H { s with heap := pushCells (s.heap.push { cls := .type "dict", data := .dict #[] }) scope.names } := by
  have hfree : ∀ y ∈ scope.names, y.2 = .free → ∃ c, X.env.cells.lookup y.1 = some c := fun y hy e => by
    rcases ok.free y hy e with k | k
    · exact I.ok.has _ (.inl k)
    · exact I.ok.has _ (.inr k)
  generalize hcenv : compEnvC scope (cellsFrom (s.heap.objs.size + 1) scope.names (cloFrom X.env.cells scope.names [])) s.heap.objs.size X.env = cenv
  have kp : ∀ b o, s.heap.get? b = some o → (pushCells (s.heap.push { cls := .type "dict", data := .dict #[] }) scope.names).get? b = some o := fun b o e => pushCells_keeps _ _ _ _ (Heap.get?_push_of_some _ e)
  have hL : cenv.locals = s.heap.objs.size := by rw [← hcenv]; rfl
  have hcl : cenv.cells = cellsFrom (s.heap.objs.size + 1) scope.names (cloFrom X.env.cells scope.names []) := by rw [← hcenv]; rfl
  have hsc : cenv.scope = relS scope X.env.scope := by rw [← hcenv]; rfl
  rw [← Heap.size_push s.heap { cls := .type "dict", data := .dict #[] }] at hcl
  have cm : ∀ {y c}, (y, c) ∈ cloFrom X.env.cells scope.names [] → X.env.cells.lookup y = some c ∧ c < s.heap.objs.size := fun {y c} hm => by
    rcases cloFrom_mem hm with hm | ⟨h1, rfl⟩
    · cases hm
    · obtain ⟨c, hc⟩ := hfree _ h1 rfl
      rw [hc]
      obtain ⟨w, z⟩ := I.cell _ _ hc
      exact ⟨rfl, z.lt⟩
  have mem : ∀ {y c}, cenv.cells.lookup y = some c → (X.env.cells.lookup y = some c ∧ c < s.heap.objs.size) ∨ (s.heap.objs.size + 1 ≤ c ∧ CellAt (pushCells (s.heap.push { cls := .type "dict", data := .dict #[] }) scope.names) c none) := fun {y c} e => by
    rw [hcl] at e
    rcases cells_mem (PySem.mem_of_lookup e) with hm | ⟨_, h2, h3⟩
    · exact .inl (cm hm)
    · rw [Heap.size_push] at h2; exact .inr ⟨h2, h3⟩
  have look : ∀ {y}, scope.names.lookup y = some .free → ∃ c, cenv.cells.lookup y = some c ∧ X.env.cells.lookup y = some c := fun {y} hl => by
    have hy : (y, NameKind.free) ∈ scope.names := PySem.mem_of_lookup hl
    obtain ⟨c', e'⟩ := mem_lookup (cells_acc (names := scope.names) (n := (s.heap.push { cls := .type "dict", data := .dict #[] }).objs.size) (cloFrom_has (cells := X.env.cells) (acc := []) hy))
    rw [← hcl] at e'
    refine ⟨c', e', ?_⟩
    rw [hcl] at e'
    rcases cells_mem (PySem.mem_of_lookup e') with hm | ⟨h1, _, _⟩
    · exact (cm hm).1
    · have := ok.uniq _ h1
      rw [hl] at this; cases this
  have okB : (X.blk s H scope cenv fp).Ok := by
    refine ⟨I.ok.mod, by show cenv.scope.kind = _; rw [hsc]; exact ok.kind, by show cenv.globals = _; rw [← hcenv]; exact I.ok.glob, by show cenv.builtins = _; rw [← hcenv]; exact I.ok.blt, by show s.heap.objs.size ≤ cenv.locals; rw [hL]; exact Nat.le_refl _,
      fun y z c e1 e2 => ?_, fun y hy => ?_, fun y c z e => ?_, I.ok.hd, I.ok.frames, .inl rfl, fun b hb => ⟨?_, fun y c e z => ?_⟩, I.bs, Nat.le_trans I.ok.bsz I.sz, fun b o e hb => ?_, fun b hb z => ?_, I.stack, I.stkFree⟩
    · have e1 : cenv.cells.lookup y = some c := e1
      have e2 : cenv.cells.lookup z = some c := e2
      rw [hcl] at e1 e2
      refine cells_inj (fun p hp => ?_) (fun y z c a b => I.ok.inj y z c (cm a).1 (cm b).1) (PySem.mem_of_lookup e1) (PySem.mem_of_lookup e2)
      rw [Heap.size_push]
      exact Nat.lt_succ_of_lt (cm (y := p.1) (c := p.2) hp).2
    · show ∃ c, cenv.cells.lookup y = some c
      have key : ∀ k, cenv.kindOf y = some k → (k = .cell ∨ k = .free) → ∃ c, cenv.cells.lookup y = some c := fun k hk hk' => by
        unfold Env.kindOf at hk
        rw [hsc] at hk
        obtain ⟨k', e, r⟩ := lookup_relS hk
        have : k' = .cell ∨ k' = .free := by
          rcases r with rfl | ⟨rfl, _⟩
          · exact hk'
          · exact .inr rfl
        rcases this with rfl | rfl
        · obtain ⟨c, hm⟩ := cells_has (n := (s.heap.push { cls := .type "dict", data := .dict #[] }).objs.size) (acc := cloFrom X.env.cells scope.names []) (PySem.mem_of_lookup e)
          obtain ⟨c', e'⟩ := mem_lookup hm
          exact ⟨c', by rw [hcl]; exact e'⟩
        · obtain ⟨c, h1, _⟩ := look e
          exact ⟨c, h1⟩
      rcases hy with hy | hy
      · exact key _ hy (.inl rfl)
      · exact key _ hy (.inr rfl)
    · have z : (scope.names.lookup y == some NameKind.cell) = true := z
      have z : scope.names.lookup y = some .cell := by simpa using z
      have e : cenv.cells.lookup y = some c := e
      rw [hcl] at e
      rcases cells_mem (PySem.mem_of_lookup e) with hm | ⟨_, h2, _⟩
      · rcases cloFrom_mem hm with hm | ⟨h1, _⟩
        · cases hm
        · have q := ok.uniq _ h1
          rw [z] at q; cases q
      · rw [Heap.size_push] at h2
        exact Nat.le_of_succ_le h2
    · show b ≠ cenv.locals
      rw [hL]; exact Nat.ne_of_lt (hfp b hb).2
    · have e : cenv.cells.lookup y = some c := e
      rcases mem e with ⟨h1, _⟩ | ⟨h1, _⟩
      · exact (hfp b hb).1.2.2.2.2.1 y c h1 z
      · have h2 : s.heap.objs.size + 1 ≤ b := by rw [← z]; exact h1
        exact absurd (Nat.lt_of_lt_of_le (hfp b hb).2 (Nat.le_of_succ_le h2)) (Nat.lt_irrefl _)
    · rcases (hfp b hb).1.2.2.2.1 with z | z
      · exact I.ok.noex b o e z
      · exact absurd (Nat.lt_of_lt_of_le (Heap.lt_size e) (Nat.le_trans I.ok.bsz z)) (Nat.lt_irrefl _)
    · rcases List.mem_cons.mp (I.stkSub b z) with z | z
      · exact (hfp b hb).1.2.1 z
      · exact (hfp b hb).1.2.2.1 z
  refine ⟨okB, rfl, I.bare, Un.kept kp, ⟨fun _ => none, ?_, fun i y av e1 e2 e3 => ?_⟩, fun y c e => ?_, ?_, fun y c e => ?_, fun p hp => ?_, I.hok.kept kp, by rw [wipe_length]; exact I.len⟩
  · show Heap.Ns _ cenv.locals _
    rw [hL]
    exact Heap.Ns.keeps (Heap.Ns.new ..) fun b o e => pushCells_keeps _ _ _ _ e
  · obtain ⟨e2, hne⟩ := wipe_some e2
    have hfr : scope.names.lookup y = some .free ∧ (cenv.kindOf y = some .cell ∨ cenv.kindOf y = some .free) := by
      have key : ∀ k, cenv.scope.names.lookup y = some k → k = .local ∨ k = .cell ∨ k = .free → scope.names.lookup y = some .free ∧ (cenv.kindOf y = some .cell ∨ cenv.kindOf y = some .free) := fun k hk hk' => by
        have hk0 := hk
        rw [hsc] at hk
        obtain ⟨k', e, r⟩ := lookup_relS hk
        have no : ¬ (k' = .local ∨ k' = .cell) := fun hh => by
          rcases ok.own _ (PySem.mem_of_lookup e) hh with e' | e'
          · obtain ⟨p, hp, hpy⟩ := List.mem_map.mp e'
            have e3 := ok.ix p hp
            have : p.1 = y := hpy
            rw [this] at e3
            exact hne (List.mem_map.mpr ⟨p, hp, nodup_ix hN e3 e1⟩)
          · exact e' (List.mem_of_getElem? e1)
        rcases r with rfl | ⟨rfl, rfl⟩
        · rcases hk' with rfl | rfl | rfl
          · exact absurd (.inl rfl) no
          · exact absurd (.inr rfl) no
          · exact ⟨e, .inr hk0⟩
        · exact ⟨e, .inl hk0⟩
      have e3 : Vis cenv.scope y := e3
      rcases e3 with e3 | e3 | e3
      · exact key _ e3 (.inl rfl)
      · exact key _ e3 (.inr (.inl rfl))
      · exact key _ e3 (.inr (.inr rfl))
    obtain ⟨m, hn, hl⟩ := I.loc
    have hvis : Vis X.env.scope y := (ok.free _ (PySem.mem_of_lookup hfr.1) rfl).elim (fun k => .inr (.inl k)) (fun k => .inr (.inr k))
    obtain ⟨w, r, q⟩ := hl i y av e1 e2 hvis
    refine ⟨w, r, .inr ⟨hfr.2, ?_⟩⟩
    obtain ⟨c, h1, h2⟩ := look hfr.1
    rcases q with ⟨k, _⟩ | ⟨_, c', e', z⟩
    · have k : X.env.scope.names.lookup y = some .local := k
      rcases ok.free _ (PySem.mem_of_lookup hfr.1) rfl with k' | k' <;> rw [show X.env.scope.names.lookup y = _ from k'] at k <;> cases k
    · rw [h2] at e'; cases e'
      exact ⟨c, h1, z.keeps kp⟩
  · have e : cenv.cells.lookup y = some c := e
    rcases mem e with ⟨h1, _⟩ | ⟨_, z⟩
    · obtain ⟨w, z⟩ := I.cell y c h1
      exact ⟨w, z.keeps kp⟩
    · exact ⟨_, z⟩
  · show H cenv.locals = none
    rw [hL]; exact I.hok.fresh (Nat.le_refl _)
  · have e : cenv.cells.lookup y = some c := e
    rcases mem e with ⟨h1, _⟩ | ⟨h1, _⟩
    · exact I.freeC y c h1
    · exact I.hok.fresh (Nat.le_of_succ_le h1)
  · exact absurd (show p ∈ ([] : List (Addr × Obj)) ++ [] from hp) (by simp)
theorem app_ok {E : Value → Shared → Prop} {D : Addr} {xs : List V} {y : V} {v : Value} {Q : Value → Shared → Prop} (I : Inv X pins σ H s) (hD : H D = some (.lst xs)) (hz : xs.length < sizeLine) (r : RelV y v)
    (h : ∀ s', Inv X pins σ (upd H D (.lst (xs ++ [y]))) s' → Q .none s') : wpAny (model X.prog X.w) X.A (call (.builtin "list.append") [.ref D, v]) Q E s := by
  obtain ⟨hz', its, n, ri, e⟩ := I.hok D _ hD
  have hl := ri.length
  refine append_at (hsz := by rw [List.size_toArray]; omega) e fun h' sb ho' => ?_
  refine h { s with heap := h' } (I.write (t' := s.toks) (by rw [hD]; trivial) (.inl rfl) (fun b u hb q => (sb.2 b hb).trans q) ⟨_, ho'⟩ ⟨by rw [List.length_append]; exact hz, its ++ [v], n + 1, ri.append (.cons r .nil), ?_⟩)
  rw [ho']
  simp
def PTs (X : Cx) (ifs : List Expr) (t : TT) : Prop :=
  ∀ (pins : List (Addr × Obj)) (s : Shared) (σ : St) (H : Hp) (Q : Bool → Hp → Prop), Inv X pins σ H s → t σ H Q →
    wpAny (model X.prog X.w) X.A (forIn ifs true fun c r => if r = true then do let ok ← isTrue c X.env (eval c X.env); pure (ForInStep.yield ok) else pure (ForInStep.yield r)) (TP X pins σ Q) X.xe s
def tYes : TT := fun _ H Q => Q true H
theorem pts_nil : PTs X [] tYes := fun _ _ _ H _ I h => wpAny_tests_nil ⟨H, I, h⟩
theorem pts_one {c : Expr} {t : TT} (h : PT X c t) : PTs X [c] t := fun pins s σ H Q I hw => wpAny_tests_one (h pins s σ H Q I hw)
end
theorem thnF {α : Type} {t : Sem α} {Q Q' : α → Shared → Prop} {M : Model} {A : Around} {E : Value → Shared → Prop} {s : Shared} (h : wpAny M A t Q (fun _ _ => False) s) (hQ : ∀ a s, Q a s → Q' a s) : wpAny M A t Q' E s := wpAny_mono h hQ fun _ _ z => False.elim z
theorem compLoop_any {prog : Program} {w : World} {A : Around} {R : Result → Shared → Prop} {s : Shared} {elt target iter : Expr} {ifs : List Expr} {scope : Scope} {pos : Pos} {it acc : Value} {env : Env} (I : Nat → Shared → Prop)
    (turn : ∀ n s, I n s → wpAny (model prog w) A (pyNext it) (fun r s₁ => match r with
      | none => R (.ok .next) s₁
      | some v => wpAny (model prog w) A (letOwnedTupleGo target it v) (fun _ s₁' => wpAny (model prog w) A (assign target env v) (fun _ s₂ =>
          wpAny (model prog w) A (forIn ifs true fun c r => if r = true then do let ok ← isTrue c env (eval c env); pure (ForInStep.yield ok) else pure (ForInStep.yield r)) (fun ok s₃ =>
            if ok = true then wpAny (model prog w) A (eval elt env) (fun x s₄ =>
              wpAny (model prog w) A (call (.builtin "list.append") [acc, x]) (fun _ s₅ => ∃ m, m < n ∧ I m s₅) (notedBy (model prog w) A env fun e s' => R (.error e) s') s₄) (notedBy (model prog w) A env fun e s' => R (.error e) s') s₃
            else ∃ m, m < n ∧ I m s₃) (notedBy (model prog w) A env fun e s' => R (.error e) s') s₂) (notedBy (model prog w) A env fun e s' => R (.error e) s') s₁') (notedBy (model prog w) A env fun e s' => R (.error e) s') s₁) (notedBy (model prog w) A env fun e s' => R (.error e) s') s)
    (n : Nat) (h : I n s) :
    codeAny (model prog w) A (.compLoop (.ListComp elt [⟨target, iter, ifs, 0⟩] scope pos) 0 it acc env) R s := by
  refine codeAny_loop rfl I (fun n s hI => ?_) n h
  show wpAny _ A ((compTurn (.ListComp elt [⟨target, iter, ifs, 0⟩] scope pos) 0 it acc env).onRaise (fun x => do noteFrame x env; theTreesLotGoes x)) _ _ s
  refine wpAny_noted ?_
  rw [compTurn_list]
  refine wpAny_bind (wpAny_standAt (wpAny_bind (wpAny_mono (turn n s hI) (fun r s₁ h₁ => ?_) fun _ _ h' => h')))
  cases r with
  | none => exact wpAny_pure h₁
  | some v =>
    refine wpAny_bind (wpAny_mono h₁ (fun _ s₁' h₁' => ?_) fun _ _ h' => h')
    refine wpAny_bind (wpAny_mono h₁' (fun _ s₂ h₂ => wpAny_bind (wpAny_mono h₂ (fun ok s₃ h₃ => ?_) fun _ _ h' => h')) fun _ _ h' => h')
    cases ok with
    | false => exact wpAny_pure ⟨rfl, h₃⟩
    | true =>
      exact wpAny_bind (wpAny_bind (wpAny_mono h₃ (fun x s₄ h₄ => wpAny_bind (wpAny_mono h₄ (fun _ s₅ h₅ => wpAny_pure (wpAny_pure ⟨rfl, h₅⟩)) fun _ _ h' => h')) fun _ _ h' => h'))
section
variable {X : Cx}
def tLc (wi : TI) (g : TG) (tt : TT) (te : TE) (vs : List Nat) : TE := fun σ H Q => wi σ H fun J H1 => ∀ D, H1 D = none → ∃ W : Nat → Nat → Hp → Prop, (∃ m, W 0 m (upd H1 D (.lst []))) ∧ ∀ i m H, W i m H →
  (J.stop i H ∧ Q (.ref D) H) ∨ (J.go i H ∧ ∃ Nx : Hp → Prop, (∀ H', Nx H' → ∃ m', m' < m ∧ W (i + 1) m' H') ∧ ∀ x H', J.yld i H x H' → g x (wipe σ vs) H' fun σ2 H2 => wipe σ2 vs = wipe σ vs ∧ tt σ2 H2 fun b H3 =>
    if b = true then te σ2 H3 fun y H4 => ∃ acc, H4 D = some (.lst acc) ∧ acc.length < sizeLine ∧ Nx (upd H4 D (.lst (acc ++ [y]))) else Nx H3)
theorem lc_core {pins : List (Addr × Obj)} {s : Shared} {σ : St} {H : Hp} {Q : VK} {elt tg iter : Expr} {ifs : List Expr} {scope : Scope} {own : List (Str × Nat)} {pos pos' : Pos} {wi : TI} {g : TG} {tt : TT} {te : TE} {use : Option (Value → Sem Unit)} {Qf : Value → Shared → Prop}
    (hc : X.calm = true) (hN : X.N.Nodup) (I : Inv X pins σ H s) (hi : PI X tg iter wi) (ok : BlkOk X.N X.env.scope scope own)
    (hg : ∀ (s : Shared) (H : Hp) (C : Addr) (cl : List (Str × Addr)) (fp : List Addr), PG (X.blk s H scope (compEnvC scope cl C X.env) fp) tg g) (ht : ∀ (s : Shared) (H : Hp) (C : Addr) (cl : List (Str × Addr)) (fp : List Addr), PTs (X.blk s H scope (compEnvC scope cl C X.env) fp) ifs tt)
    (he : ∀ (s : Shared) (H : Hp) (C : Addr) (cl : List (Str × Addr)) (fp : List Addr), PE (X.blk s H scope (compEnvC scope cl C X.env) fp) elt te) (hs : ∀ x, foldedSetIterable iter X.env x = pure x)
    (h : tLc wi g tt te (own.map (·.2)) σ H Q)
    (hRR : ∀ D C s' m H', Inv X pins σ H' s' → Q (.ref D) H' → s'.heap.Ns C m → FpOk X pins H' C → compPost (model X.prog X.w) X.A X.xe use Qf (.ref D) C (.ok .next) s') :
    wpAny (model X.prog X.w) X.A (comprehension (.ListComp elt [⟨tg, iter, ifs, 0⟩] scope pos) scope X.env pos' (newList []) false (eval iter X.env) use) Qf X.xe s := by
  have hfree : ∀ y ∈ scope.names, y.2 = .free → ∃ c, X.env.cells.lookup y.1 = some c := fun y hy e => by
    rcases ok.free y hy e with k | k
    · exact I.ok.has _ (.inl k)
    · exact I.ok.has _ (.inr k)
  refine wpAny_comprehension_free (use := use) rfl hs (closure_ok hfree) ok.kind (fun y hy e => by rw [ok.uniq y hy, e])
    (thn (hi pins s σ H _ I h) fun xv s1 hx => thn hx fun itv s2 h2 => ?_)
  obtain ⟨it, fp, tn, J, H2, e, I2, T, st2, f2, q⟩ := h2
  subst e
  refine wpAny_newObj_type (newEnv_comp ?_) (by show 0 ≤ sizeLine; decide)
  generalize hD : s2.heap.objs.size = D
  have hDn : H2 D = none := I2.hok.fresh (Nat.le_of_eq hD)
  obtain ⟨W, ⟨m0, w0⟩, turn⟩ := q D hDn
  -- the new list
  generalize hs3 : ({ s2 with heap := s2.heap.push { cls := .type "list", data := .seq ([] : List Value).toArray } } : Shared) = s3
  have I3 : Inv X pins σ (upd H2 D (.lst [])) s3 := by
    rw [← hs3]
    refine I2.laid (t' := s2.toks) (fun b o e => Heap.get?_push_of_some _ e) (Nat.le_of_eq hD) ⟨Nat.zero_le _, [], 0, .nil, ?_⟩
    rw [← hD]
    exact Heap.get?_push_size _ rfl
  have h3 : s3.heap = s2.heap.push { cls := .type "list", data := .seq ([] : List Value).toArray } := by rw [← hs3]
  have sz : ∀ b ∈ fp, b < s2.heap.objs.size := fun b hb => by
    obtain ⟨o, e, _⟩ := T.obj _ _ st2 b hb
    exact Heap.lt_size e
  have f3 : ∀ b ∈ fp, FpOk X pins (upd H2 D (.lst [])) b ∧ b < s3.heap.objs.size := fun b hb => by
    have hlt := sz b hb
    refine ⟨⟨?_, (f2 b hb).2⟩, by rw [h3, Heap.size_push]; exact Nat.lt_succ_of_lt hlt⟩
    rw [upd_ne (by rw [← hD]; exact Nat.ne_of_lt hlt)]
    exact (f2 b hb).1
  have st3 : tn 0 s3.heap := T.keep _ _ _ st2 fun b _ o e => by rw [h3]; exact Heap.get?_push_of_some _ e
  have I4 := block_start I3 ok hN f3
  have pg := hg s3 (upd H2 D (.lst [])) s3.heap.objs.size (cellsFrom (s3.heap.objs.size + 1) scope.names (cloFrom X.env.cells scope.names [])) fp
  have pt := ht s3 (upd H2 D (.lst [])) s3.heap.objs.size (cellsFrom (s3.heap.objs.size + 1) scope.names (cloFrom X.env.cells scope.names [])) fp
  have pe := he s3 (upd H2 D (.lst [])) s3.heap.objs.size (cellsFrom (s3.heap.objs.size + 1) scope.names (cloFrom X.env.cells scope.names [])) fp
  show codeAny _ _ (.compStart (.ListComp elt [⟨tg, iter, ifs, 0⟩] scope pos) 0 (.ref it) (.ref D) (compEnvC scope (cellsFrom (s3.heap.objs.size + 1) scope.names (cloFrom X.env.cells scope.names [])) s3.heap.objs.size X.env)) (compPost (model X.prog X.w) X.A X.xe use Qf (.ref D) s3.heap.objs.size) { s3 with heap := pushCells (s3.heap.push { cls := .type "dict", data := .dict #[] }) scope.names }
  have nfp : ∀ b ∈ fp, (upd H2 D (.lst [])) b = none := fun b hb => (f3 b hb).1.1
  generalize hce : compEnvC scope (cellsFrom (s3.heap.objs.size + 1) scope.names (cloFrom X.env.cells scope.names [])) s3.heap.objs.size X.env = ce at I4 pg pt pe ⊢
  have cL : ce.locals = s3.heap.objs.size := by subst hce; rfl
  generalize hH3 : upd H2 D (.lst []) = H3 at I3 I4 pg pt pe w0 nfp f3
  generalize hs4 : ({ s3 with heap := pushCells (s3.heap.push { cls := .type "dict", data := .dict #[] }) scope.names } : Shared) = s4 at I4 ⊢
  have st4 : tn 0 s4.heap := T.keep _ _ _ st3 fun b _ o e => by rw [← hs4]; exact pushCells_keeps _ _ _ _ (Heap.get?_push_of_some _ e)
  have stat : ∀ {σ' : St} {H' : Hp} {s' : Shared}, Inv (X.blk s3 H3 scope ce fp) [] σ' H' s' → (∀ b ∈ fp, H' b = none) → ∀ b ∈ fp, FpOk (X.blk s3 H3 scope ce fp) [] H' b := fun {σ' H' s'} I' hn b hb =>
    ⟨hn b hb, (I'.ok.exf b hb).1, I'.ok.exfs b hb, .inl hb, fun x c e => (I'.ok.exf b hb).2 x c e, fun p hp => absurd (show p ∈ ([] : List (Addr × Obj)) ++ [] from hp) (by simp)⟩
  have loop : codeAny (model X.prog X.w) X.A (.compLoop (.ListComp elt [⟨tg, iter, ifs, 0⟩] scope pos) 0 (.ref it) (.ref D) ce) (compPost (model X.prog X.w) X.A X.xe use Qf (.ref D) s3.heap.objs.size) s4 := by
    refine compLoop_any (fun n s' => ∃ i H', Inv (X.blk s3 H3 scope ce fp) [] (wipe σ (own.map (·.2))) H' s' ∧ tn i s'.heap ∧ (∀ b ∈ fp, H' b = none) ∧ W i n H') ?_ m0 ⟨0, H3, I4, st4, nfp, w0⟩
    rintro n s5 ⟨i, H5, I5, st5, n5, w5⟩
    rcases turn i n H5 w5 with ⟨stop, qq⟩ | ⟨go, Nx, hNx, step⟩
    · have td := T.done (X.blk s3 H3 scope ce fp) rfl rfl rfl hc i [] s5 _ H5 (fun _ _ => False) I5 (stat I5 n5) st5 stop
      refine thnF td fun r s6 ⟨hr, I6⟩ => ?_
      subst hr
      -- back in the def's context
      have I7 : Inv X pins σ H5 s6 := I3.call' (ch := fp) I6.os I6.base I6.hok I6.bare fun b hb => ⟨(f3 b hb).1.2.2.2.1, (f3 b hb).1.2.1, (f3 b hb).1.2.2.2.2.1, (f3 b hb).1.2.2.2.2.2⟩
      have nC : H5 s3.heap.objs.size = none := by
        have z : H5 ce.locals = none := I6.free
        rw [cL] at z
        exact z
      obtain ⟨m, hn, _⟩ := I6.loc
      have hn : s6.heap.Ns ce.locals m := hn
      rw [cL] at hn
      exact hRR D s3.heap.objs.size s6 m H5 I7 qq hn (I3.fpOk (Nat.le_refl _) nC)
    · have ti := T.item (X.blk s3 H3 scope ce fp) rfl rfl rfl hc i [] s5 _ H5 (fun _ _ => False) I5 (stat I5 n5) st5 go
      refine thnF ti fun r s6 ⟨u, hr, h6⟩ => ?_
      subst hr
      refine thnF h6 fun _ s7 ⟨x, H7, I7, r7, y7, st7, n7⟩ => ?_
      have I7' := I7.pinned (stat I7 n7) (T.obj _ _ st7)
      refine thnF (pg _ s7 _ H7 x u _ I7' r7 (step x H7 y7)) fun _ s8 ⟨σ8, H8, I8, hw8, q8⟩ => ?_
      refine thnF (pt _ s8 σ8 H8 _ I8 q8) fun b s9 ⟨H9, I9, q9⟩ => ?_
      -- the turn's end
      have fin : ∀ {s' : Shared} {H' : Hp}, Inv (X.blk s3 H3 scope ce fp) ([] ++ pinsAt fp s7.heap) σ8 H' s' → Nx H' → ∃ m, m < n ∧ ∃ i H', Inv (X.blk s3 H3 scope ce fp) [] (wipe σ (own.map (·.2))) H' s' ∧ tn i s'.heap ∧ (∀ b ∈ fp, H' b = none) ∧ W i m H' := fun {s' H'} I' nx => by
        obtain ⟨m', hm, w'⟩ := hNx H' nx
        have pin' : ∀ b ∈ fp, ∀ o, s7.heap.get? b = some o → s'.heap.get? b = some o ∧ H' b = none := fun b hb o e =>
          let z := I'.pin (b, o) (List.mem_append_right _ (List.mem_append_right _ (mem_pinsAt hb e)))
          ⟨z.1, z.2.1⟩
        have hl : (wipe σ (own.map (·.2))).length = σ8.length := by rw [← hw8, wipe_length]
        refine ⟨m', hm, i + 1, H', (I'.unpinned (pins := [])).weak hl (fun j v e => ?_), T.keep _ _ _ st7 fun b hb o e => (pin' b hb o e).1, fun b hb => ?_, w'⟩
        · rw [← hw8] at e
          exact (wipe_some e).1
        · obtain ⟨o, e, _⟩ := T.obj _ _ st7 b hb
          exact (pin' b hb o e).2
      cases b with
      | false =>
        simp only [Bool.false_eq_true, if_false] at q9 ⊢
        exact fin I9 q9
      | true =>
        simp only [if_true] at q9 ⊢
        refine thnF (pe _ s9 σ8 H9 _ I9 q9) fun z s10 ⟨yv, H10, I10, r10, acc, hD10, hz10, nx⟩ => ?_
        exact app_ok (X := X.blk s3 H3 scope ce fp) I10 hD10 hz10 r10 fun s11 I11 => fin I11 nx
  exact codeAny_compStart_list loop (T.self X.A 0 _ _ _ st4 loop)
theorem pe_lc {elt tg iter : Expr} {ifs : List Expr} {scope : Scope} {own : List (Str × Nat)} {pos : Pos} {wi : TI} {g : TG} {tt : TT} {te : TE} (hc : X.calm = true) (hN : X.N.Nodup) (hi : PI X tg iter wi) (ok : BlkOk X.N X.env.scope scope own)
    (hg : ∀ (s : Shared) (H : Hp) (C : Addr) (cl : List (Str × Addr)) (fp : List Addr), PG (X.blk s H scope (compEnvC scope cl C X.env) fp) tg g) (ht : ∀ (s : Shared) (H : Hp) (C : Addr) (cl : List (Str × Addr)) (fp : List Addr), PTs (X.blk s H scope (compEnvC scope cl C X.env) fp) ifs tt)
    (he : ∀ (s : Shared) (H : Hp) (C : Addr) (cl : List (Str × Addr)) (fp : List Addr), PE (X.blk s H scope (compEnvC scope cl C X.env) fp) elt te) (hs : ∀ x, foldedSetIterable iter X.env x = pure x := by intro _; rfl) :
    PE X (.ListComp elt [⟨tg, iter, ifs, 0⟩] scope pos) (tLc wi g tt te (own.map (·.2))) := by
  intro pins s σ H Q I h
  rw [eval_ListComp]
  refine lc_core hc hN I hi ok hg ht he hs h fun D C s' m H' I' q hn f => ⟨m, hn, fun h'' sb => ?_⟩
  obtain ⟨f0, f1, f2, f3, f4, f5⟩ := f
  exact ⟨.ref D, H', I'.turned (t' := s'.toks) (fun b o hb e => (sb.2 b hb).trans e) f0 f1 f3 f4 f5, rfl, q⟩
theorem ps_setLc {i : Nat} {y : Str} {py : Pos} {elt tg iter : Expr} {ifs : List Expr} {scope : Scope} {own : List (Str × Nat)} {pos spos : Pos} {wi : TI} {g : TG} {tt : TT} {te : TE} (hc : X.calm = true) (hN : X.N.Nodup) (hy : X.N[i]? = some y) (hyl : X.env.scope.names.lookup y = some .local)
    (hsw : swapsWith (.ListComp elt [⟨tg, iter, ifs, 0⟩] scope pos) (some (.Name y py)) spos.line X.env = pure true) (hi : PI X tg iter wi) (ok : BlkOk X.N X.env.scope scope own)
    (hg : ∀ (s : Shared) (H : Hp) (C : Addr) (cl : List (Str × Addr)) (fp : List Addr), PG (X.blk s H scope (compEnvC scope cl C X.env) fp) tg g) (ht : ∀ (s : Shared) (H : Hp) (C : Addr) (cl : List (Str × Addr)) (fp : List Addr), PTs (X.blk s H scope (compEnvC scope cl C X.env) fp) ifs tt)
    (he : ∀ (s : Shared) (H : Hp) (C : Addr) (cl : List (Str × Addr)) (fp : List Addr), PE (X.blk s H scope (compEnvC scope cl C X.env) fp) elt te) (hs : ∀ x, foldedSetIterable iter X.env x = pure x := by intro _; rfl) :
    PS X (.Assign [.Name y py] (.ListComp elt [⟨tg, iter, ifs, 0⟩] scope pos) spos) (tAsg (tLc wi g tt te (own.map (·.2))) (gName i)) := by
  intro pins s σ H D I h
  rw [exec_Assign_Name_used _ _ _ _ hsw]
  refine wpAny_bind (wpAny_standAt (wpAny_bind ?_))
  show wpAny _ X.A (do let _ ← comprehension (.ListComp elt [⟨tg, iter, ifs, 0⟩] scope pos) scope X.env (firstIterPos [⟨tg, iter, ifs, 0⟩] pos) (newList []) false (eval iter X.env) (some (assign (.Name y py) X.env))) _ _ s
  have h : tLc wi g tt te (own.map (·.2)) σ H (fun x H1 => gName i x σ H1 D.nx) := h
  refine wpAny_bind (thn (lc_core (Qf := fun _ s' => SP X pins D .next s') hc hN I hi ok hg ht he hs h fun L C s' m H' I' q hn f => ?_) fun _ s' hq => wpAny_pure (wpAny_pure hq))
  show wpAny _ _ (assign (.Name y py) X.env (.ref L)) _ _ _
  refine wpAny_assign_Name (store_ok2 (v := V.ref L) I' hN hy (.inl hyl) rfl (fun s2 I2 ⟨a, sb, ha⟩ => ?_) (.inr hyl))
  obtain ⟨f0, f1, f2, f3, f4, f5⟩ := f
  have haC : C ≠ a := by
    rcases ha with z | z
    · rw [z]; exact f1
    · exact fun e => f4 y a z e.symm
  refine ⟨m, hn.sameBut sb haC, fun h3 sb3 => ?_⟩
  exact ⟨_, H', I2.turned (t' := s2.toks) (fun b o hb e => (sb3.2 b hb).trans e) f0 f1 f3 f4 f5, q⟩
theorem sw_true {elt : Expr} {gs : List Comprehension} {scope : Scope} {pos py : Pos} {y : Str} {l : Nat} {env : Env} (hk : env.scope.kind = .function) (hy : env.scope.names.lookup y = some .local) (hl : (py.line == pos.line) = true)
    (ha : (scope.names.any fun (n, k) => n == y && (k == .local || k == .cell)) = false) : swapsWith (.ListComp elt gs scope pos) (some (.Name y py)) l env = pure true := by
  have ky : env.kindOf y = some .local := hy
  have hb : env.blockKind = .function := by unfold Env.blockKind; rw [hk]; rfl
  unfold swapsWith
  simp only [hb, ky, ha, Expr.pos, hl]
  rfl
end
theorem lc_range {lo : Int} {n : Nat} {g : TG} {tt : TT} {te : TE} {vs : List Nat} {σ : St} {H1 : Hp} {D : Addr} {Qd : Hp → Prop} (Pv : Nat → Hp → Prop) (h0 : Pv 0 (upd H1 D (.lst [])))
    (hs : ∀ i H, i < n → Pv i H → g (.int (lo + i)) (wipe σ vs) H fun σ2 H2 => wipe σ2 vs = wipe σ vs ∧ tt σ2 H2 fun b H3 =>
      if b = true then te σ2 H3 fun y H4 => ∃ acc, H4 D = some (.lst acc) ∧ acc.length < sizeLine ∧ Pv (i + 1) (upd H4 D (.lst (acc ++ [y]))) else Pv (i + 1) H3) (hd : ∀ H, Pv n H → Qd H) :
    ∃ W : Nat → Nat → Hp → Prop, (∃ m, W 0 m (upd H1 D (.lst []))) ∧ ∀ i m H, W i m H →
      ((Itr lo n).stop i H ∧ Qd H) ∨ ((Itr lo n).go i H ∧ ∃ Nx : Hp → Prop, (∀ H', Nx H' → ∃ m', m' < m ∧ W (i + 1) m' H') ∧ ∀ x H', (Itr lo n).yld i H x H' → g x (wipe σ vs) H' fun σ2 H2 => wipe σ2 vs = wipe σ vs ∧ tt σ2 H2 fun b H3 =>
        if b = true then te σ2 H3 fun y H4 => ∃ acc, H4 D = some (.lst acc) ∧ acc.length < sizeLine ∧ Nx (upd H4 D (.lst (acc ++ [y]))) else Nx H3) := by
  refine ⟨fun i m H => m = n - i ∧ i ≤ n ∧ Pv i H, ⟨n, by simp, Nat.zero_le _, h0⟩, ?_⟩
  rintro i m H ⟨rfl, hi, p⟩
  by_cases hlt : i < n
  · refine .inr ⟨hlt, Pv (i + 1), fun H' p' => ⟨n - (i + 1), by omega, rfl, hlt, p'⟩, fun x H' y => ?_⟩
    obtain ⟨e, y⟩ := y
    subst e y
    exact hs i _ hlt p
  · have e : i = n := by omega
    subst e
    exact .inl ⟨Nat.le_refl _, hd H p⟩
theorem lc_list {K : PySem.W.Frag} {a : Addr} {xs : List V} {g : TG} {tt : TT} {te : TE} {vs : List Nat} {σ : St} {H1 : Hp} {D : Addr} {Qd : Hp → Prop} (Pv : Nat → Hp → Prop) (h0 : Pv 0 (upd H1 D (.lst []))) (hl : ∀ i H, i ≤ xs.length → Pv i H → SqL K H a xs)
    (hs : ∀ i x H, xs[i]? = some x → Pv i H → g x (wipe σ vs) H fun σ2 H2 => wipe σ2 vs = wipe σ vs ∧ tt σ2 H2 fun b H3 =>
      if b = true then te σ2 H3 fun y H4 => ∃ acc, H4 D = some (.lst acc) ∧ acc.length < sizeLine ∧ Pv (i + 1) (upd H4 D (.lst (acc ++ [y]))) else Pv (i + 1) H3) (hd : ∀ H, Pv xs.length H → Qd H) :
    ∃ W : Nat → Nat → Hp → Prop, (∃ m, W 0 m (upd H1 D (.lst []))) ∧ ∀ i m H, W i m H →
      ((Itl K a).stop i H ∧ Qd H) ∨ ((Itl K a).go i H ∧ ∃ Nx : Hp → Prop, (∀ H', Nx H' → ∃ m', m' < m ∧ W (i + 1) m' H') ∧ ∀ x H', (Itl K a).yld i H x H' → g x (wipe σ vs) H' fun σ2 H2 => wipe σ2 vs = wipe σ vs ∧ tt σ2 H2 fun b H3 =>
        if b = true then te σ2 H3 fun y H4 => ∃ acc, H4 D = some (.lst acc) ∧ acc.length < sizeLine ∧ Nx (upd H4 D (.lst (acc ++ [y]))) else Nx H3) := by
  refine ⟨fun i m H => m = xs.length - i ∧ i ≤ xs.length ∧ Pv i H, ⟨xs.length, by simp, Nat.zero_le _, h0⟩, ?_⟩
  rintro i m H ⟨rfl, hi, p⟩
  have q := hl i H hi p
  by_cases hlt : i < xs.length
  · refine .inr ⟨⟨xs, xs[i], q, by simp [hlt]⟩, Pv (i + 1), fun H' p' => ⟨xs.length - (i + 1), by omega, rfl, hlt, p'⟩, fun x H' y => ?_⟩
    obtain ⟨e, y⟩ := y
    subst e
    exact hs i x _ (y xs q) p
  · have e : i = xs.length := by omega
    subst e
    exact .inl ⟨⟨xs, q, Nat.le_refl _⟩, hd H p⟩
def blkC (N : List Str) (sc scope : Scope) (own : List (Str × Nat)) : Bool :=
  (match scope.kind with | .function => true | _ => false) && (scope.names.all fun y => decide (scope.names.lookup y.1 = some y.2)) && (own.all fun p => decide (N[p.2]? = some p.1)) &&
    (scope.names.all fun y => match y.2 with
      | .free => (match sc.names.lookup y.1 with | some .cell => true | some .free => true | _ => false)
      | .local => decide (y.1 ∈ own.map (·.1)) || decide (y.1 ∉ N)
      | .cell => decide (y.1 ∈ own.map (·.1)) || decide (y.1 ∉ N)
      | _ => true)
theorem blkOk_by {N : List Str} {sc scope : Scope} {own : List (Str × Nat)} (h : blkC N sc scope own = true) : BlkOk N sc scope own := by
  unfold blkC at h
  simp only [Bool.and_eq_true, List.all_eq_true, decide_eq_true_eq] at h
  obtain ⟨⟨⟨h1, h2⟩, h3⟩, h4⟩ := h
  refine ⟨?_, h2, h3, fun y hy e => ?_, fun y hy e => ?_⟩
  · split at h1
    · assumption
    · cases h1
  · have q := h4 y hy
    simp only [e] at q
    split at q <;> first | exact .inl (by assumption) | exact .inr (by assumption) | cases q
  · have q := h4 y hy
    rcases e with e | e <;> (simp only [e, Bool.or_eq_true, decide_eq_true_eq] at q; exact q)
end L2
namespace L2
open PySem PySem.Spec PyProof.Rows
section
variable {prog : Program} {w : World} {A : Around} {R : Result → Shared → Prop} {s : Shared} {elt t0 i0 t1 i1 : Expr} {ifs0 ifs1 : List Expr} {scope : Scope} {pos : Pos} {it acc : Value} {env : Env}
end
section
variable {X : Cx}
end
end L2
namespace L2
open PySem PySem.Spec PyProof.Rows
section
variable {κ : Type} [DecidableEq κ]
end
section
variable {P : Program} {w : World} {H : Hp} {h : Heap} {a : Addr}
end
section
variable {X : Cx} {pins : List (Addr × Obj)} {σ : St} {H : Hp} {s : Shared} {a : Addr} {y v : V} {u r : Value} {o : Option V} {A : Around} {E : Value → Shared → Prop}
end
section
variable {X : Cx} {pins : List (Addr × Obj)} {σ : St} {H : Hp} {s : Shared} {a : Addr} {kvs : List (Key × V)} {k : Key} {u : Value} {A : Around} {E : Value → Shared → Prop}
end
section
variable {X : Cx} {o i e value : Expr} {pos pos' tpos : Pos} {td ty tv : TE}
end
section
variable {X : Cx} {pos : Pos}
end
section
variable {X : Cx} {pins : List (Addr × Obj)} {σ : St} {H : Hp} {s : Shared} {a : Addr} {y d : V} {u r : Value} {o : Option V} {A : Around} {E : Value → Shared → Prop}
end
section
variable {X : Cx} {o e f : Expr} {apos cpos : Pos} {td ty tx : TE}
end
section
variable {X : Cx} {pins : List (Addr × Obj)} {σ : St} {H : Hp} {s : Shared} {a : Addr} {kvs : List (Key × V)} {A : Around} {E : Value → Shared → Prop}
end
section
variable {X : Cx} {pins : List (Addr × Obj)} {σ : St} {H : Hp} {s : Shared} {a : Addr} {y : V} {u : Value} {A : Around} {E : Value → Shared → Prop}
end
end L2
namespace L2
open PySem PySem.Spec PyProof.Rows
section
variable {prog : Program} {w : World} {A : Around} {E : Value → Shared → Prop}
end
section
variable {X : Cx}
end
end L2
namespace L2
open PySem PySem.Spec PyProof.Rows
section
variable {X : Cx} {pins : List (Addr × Obj)} {σ : St} {H : Hp} {s : Shared} {h' : Heap}
theorem Inv.turnedL {t' : Nat} {ch : List Addr} (I : Inv X pins σ H s) (k : ∀ b o, b ∉ ch → s.heap.get? b = some o → h'.get? b = some o) (hf : ∀ b ∈ ch, FpOk X pins H b) : Inv X pins σ H { s with heap := h', toks := t' } := by
  have nit : ∀ b u, H b = some u → b ∉ ch := fun b u e z => by
    have q := (hf b z).1
    rw [q] at e; cases e
  refine I.step (g' := s.gens) (d' := s.drawn) (ch := ch) (fun b hb => ⟨(hf b hb).2.2.2.1, (hf b hb).2.1, (hf b hb).2.2.2.2.1, (hf b hb).2.2.2.2.2⟩) (fun b o _ _ hc e _ => k b o hc e) (fun b o _ _ hc e _ => ⟨o.slots, k b o hc e⟩)
    (fun _ _ _ _ n => n) (fun b o hc e => ⟨o, k b o hc e⟩) (fun _ _ e => e) (fun _ _ _ e => e) (fun b ps e => ⟨#[], by rw [e]; simp⟩) (fun m hm => ?_) (fun b u e => ?_) I.bare
  · obtain ⟨o, es, ep, ho, r⟩ := hm
    exact ⟨o, es, ep, k _ o (fun z => (hf _ z).2.1 rfl) ho, r⟩
  · refine (I.hok b u e).stay (fun c v hc q => k c v ?_ q) (fun _ q => q) fun _ _ q => q
    rcases hc with z | z
    · rw [z]; exact nit b u e
    · exact nit c _ z
theorem Inv.turnedNew {t' : Nat} {ch : List Addr} {T : Addr} {ob : HO} (I : Inv X pins σ H s) (k : ∀ b o, b ∉ ch → s.heap.get? b = some o → h'.get? b = some o) (hf : ∀ b ∈ ch, FpOk X pins H b) (hT : s.heap.objs.size ≤ T)
    (new : ObjOk X.prog X.w (upd H T ob) h' T ob) : Inv X pins σ (upd H T ob) { s with heap := h', toks := t' } := by
  have hn : H T = none := I.hok.fresh hT
  have nit : ∀ b u, H b = some u → b ∉ ch := fun b u e z => by
    have q := (hf b z).1
    rw [q] at e; cases e
  refine I.step (g' := s.gens) (d' := s.drawn) (ch := ch) (fun b hb => ⟨(hf b hb).2.2.2.1, (hf b hb).2.1, (hf b hb).2.2.2.2.1, (hf b hb).2.2.2.2.2⟩) (fun b o _ _ hc e _ => k b o hc e) (fun b o _ _ hc e _ => ⟨o.slots, k b o hc e⟩)
    (fun b o _ e n => ?_) (fun b o hc e => ⟨o, k b o hc e⟩) (fun b xs e => ?_) (fun b o u e => ?_) (fun b ps e => ⟨#[], ?_⟩) (fun m hm => ?_) (fun b u e => ?_) I.bare
  · rw [upd_ne (Nat.ne_of_lt (Nat.lt_of_lt_of_le (Heap.lt_size e) hT))]; exact n
  · rw [upd_ne (ne_of_none e hn)]; exact e
  · rw [upd_ne (ne_of_none e hn)]; exact e
  · rw [upd_ne (ne_of_none e hn), e]; simp
  · obtain ⟨o, es, ep, ho, r⟩ := hm
    exact ⟨o, es, ep, k _ o (fun z => (hf _ z).2.1 rfl) ho, r⟩
  · by_cases hb : b = T
    · subst hb
      rw [upd_same] at e
      cases e
      exact new
    · rw [upd_ne hb] at e
      refine (I.hok b u e).stay (fun c v hc q => k c v ?_ q) (fun c q => by rw [upd_ne (ne_of_none q hn)]; exact q) fun c xs q => by rw [upd_ne (ne_of_none q hn)]; exact q
      rcases hc with z | z
      · rw [z]; exact nit b u e
      · exact nit c _ z
end
section
variable {X : Cx}
theorem pi_one {tg : Expr} {pins : List (Addr × Obj)} {σ : St} {H : Hp} {s : Shared} {R : It → Hp → Prop} {J : It} {tn : Nat → Heap → Prop} {tk : Nat} (I : Inv X pins σ H s) (o : Obj)
    (T : Turn X.prog X.w X.K tg J [s.heap.objs.size] s.heap.objs.size tn) (st : tn 0 (s.heap.push o)) (q : R J H) : PIE X pins σ tg R (.ref s.heap.objs.size) { s with heap := s.heap.push o, toks := tk } := by
  refine ⟨s.heap.objs.size, [s.heap.objs.size], tn, J, H, rfl, I.kept fun b ob e => Heap.get?_push_of_some _ e, T, st, fun b hb => ?_, q⟩
  have e : b = s.heap.objs.size := by simpa using hb
  subst e
  exact I.fpOk (Nat.le_refl _) (I.hok.fresh (Nat.le_refl _))
end
def Itc (lo c : Int) (n : Nat) : It := ⟨fun i _ => i < n, fun i H x H' => H' = H ∧ x = .int (lo + (i : Nat) * c), fun i _ => n ≤ i⟩
theorem turn_rangeC {P : Program} {w : World} {K : PySem.W.Frag} {tg : Expr} (it : Addr) (lo c : Int) (n : Nat) : Turn P w K tg (Itc lo c n) [it] it (fun i h => IsRangeIter h it (lo + (i : Nat) * c) ((n : Int) - (i : Nat)) c) where
  mem := by simp
  obj := fun i h st b hb => by
    have e : b = it := by simpa using hb
    subst e
    exact ⟨_, st, fun v z => nomatch z⟩
  keep := fun i h h' st k => k it (by simp) _ st
  item := by
    intro X hP hw hK hc i pins s σ H E I hf st hg
    subst hP hw hK
    obtain ⟨f0, f1, f2, f3, f4, f5⟩ := hf it (by simp)
    have W := Walks.range (prog := X.prog) (w := X.w) (I.ok.hd hc) it lo c n
    refine W.item i s _ _ hg st fun v h' tk hv st' kk => ?_
    obtain ⟨t, rfl⟩ := hv
    have I1 : Inv X pins σ H { s with heap := h', toks := tk } := I.turned (fun b o hb e => kk b o (by simpa using hb) e) f0 f1 f3 f4 f5
    exact ⟨_, rfl, go_of (s := { s with heap := h', toks := tk }) (n := "range_iterator") st' rfl rfl (by decide) ⟨.int (lo + (i : Nat) * c), H, I1, ⟨t, rfl⟩, ⟨rfl, rfl⟩, st', fun b hb => (hf b hb).1⟩⟩
  done := by
    intro X hP hw hK hc i pins s σ H E I hf st hg
    subst hP hw hK
    obtain ⟨f0, f1, f2, f3, f4, f5⟩ := hf it (by simp)
    exact wpAny_pyNext_range_end (I.ok.hd hc) st (by have : n ≤ i := hg; omega) fun h' eb => ⟨rfl, I.turned (t' := s.toks) (fun b o hb e => eb b o hb e) f0 f1 f3 f4 f5⟩
  self := fun A i s Q E st h => wpAny_pyIter_rangeiter st h
def RgC (i j c : Int) (n : Nat) : Prop := c ≠ 0 ∧ c.natAbs < 1073741824 ∧ Builtin.Range.small i j c = true ∧ Builtin.Range.rangeSize i j c = n
def iRng3 (ta : TA) : TI := fun σ H R => ta σ H fun vs H1 => ∃ (i j c : Int) (n : Nat), vs = [.int i, .int j, .int c] ∧ RgC i j c n ∧ R (Itc i c n) H1
section
variable {X : Cx} {tg : Expr}
theorem pi_range3 {a b c : Expr} {ta : TA} {p pos : Pos} (hg : Gl X "range") (hm : X.mg "range" = none) (ha : PA X [a, b, c] ta)
    (hs : starEach [a, b, c] X.env = (false, eval a X.env) :: starEach [b, c] X.env := by rfl) (hpl : (backTo pos (starEach [b, c] X.env)).any (·.1) = false := by rfl) :
    PI X tg (.Call (.Name "range" p) [a, b, c] [] pos) (iRng3 ta) := by
  intro pins s σ H R I h
  refine Call_ (ld_blt I hg hm boot_range (PyProof.Rows.callWith_type1 (thn (ha pos pins s σ H _ I h) fun us s1 ⟨vs, H1, I1, r1, q1⟩ => ?_) hs hpl))
  obtain ⟨i, j, k, n, e, ⟨c0, c1, c2, c3⟩, q⟩ := q1
  subst e
  cases r1 with
  | cons r rr =>
    cases rr with
    | cons r' rr =>
      cases rr with
      | cons r'' rr =>
        cases rr
        obtain ⟨t, rfl⟩ := r
        obtain ⟨t', rfl⟩ := r'
        obtain ⟨t'', rfl⟩ := r''
        refine call_range_3 c0 ?_ (.inl (PyProof.noPylong_small c1))
        refine wpAny_pyIter_range (IsRange.new ..) c2 ?_
        have I2 : Inv X pins σ H1 { s1 with heap := s1.heap.push { cls := .type "range", data := .fields #[.int i t, .int j t', .int k t''] } } := I1.kept (t' := s1.toks) fun b o e => Heap.get?_push_of_some _ e
        refine pi_one (tk := s1.toks) I2 _ (turn_rangeC _ i k n) ?_ q
        have e1 : i + ((0 : Nat) : Int) * k = i := by simp
        have e2 : (n : Int) - ((0 : Nat) : Int) = Builtin.Range.rangeSize i j k := by rw [c3]; simp
        show IsRangeIter _ _ (i + ((0 : Nat) : Int) * k) ((n : Int) - ((0 : Nat) : Int)) k
        rw [e1, e2]
        exact Heap.get?_push_size _ rfl
end
theorem for_rangeC {lo c : Int} {n : Nat} {g : TG} {tb : TS} {D : Ends} {σ : St} {H : Hp} (Pv : Nat → St → Hp → Prop) (h0 : Pv 0 σ H)
    (hs : ∀ i σ H, i < n → Pv i σ H → g (.int (lo + (i : Nat) * c)) σ H fun σ2 H2 => tb { D with nx := Pv (i + 1), ct := Pv (i + 1), bk := D.nx } σ2 H2) (hd : ∀ σ H, Pv n σ H → D.nx σ H) :
    ∃ W : Nat → Nat → St → Hp → Prop, (∃ m, W 0 m σ H) ∧ ∀ i m σ H, W i m σ H →
      ((Itc lo c n).stop i H ∧ D.nx σ H) ∨ ((Itc lo c n).go i H ∧ ∃ N : St → Hp → Prop, (∀ σ' H', N σ' H' → ∃ m', m' < m ∧ W (i + 1) m' σ' H') ∧ ∀ x H', (Itc lo c n).yld i H x H' → g x σ H' fun σ2 H2 => tb { D with nx := N, ct := N, bk := D.nx } σ2 H2) := by
  refine ⟨fun i m σ H => m = n - i ∧ i ≤ n ∧ Pv i σ H, ⟨n, by simp, Nat.zero_le _, h0⟩, ?_⟩
  rintro i m σ H ⟨rfl, hi, p⟩
  by_cases hlt : i < n
  · refine .inr ⟨hlt, Pv (i + 1), fun σ' H' p' => ⟨n - (i + 1), by omega, rfl, hlt, p'⟩, fun x H' y => ?_⟩
    obtain ⟨e, y⟩ := y
    subst e y
    exact hs i σ _ hlt p
  · have e : i = n := by omega
    subst e
    exact .inl ⟨Nat.le_refl _, hd σ H p⟩
section
variable {X : Cx} {tg : Expr}
end
section
variable {prog : Program} {w : World} {A : Around} {E : Value → Shared → Prop} {s : Shared}
end
section
variable {X : Cx} {pins : List (Addr × Obj)} {σ : St} {H : Hp} {s : Shared} {d : Addr} {o : Obj}
end
section
variable {P : Program} {w : World} {K : PySem.W.Frag} {tg : Expr} {d : Addr} {o : Obj} {es : Array DictEntry} {ep : Nat}
end
section
variable {X : Cx} {tg e : Expr} {td : TE} {apos cpos : Pos}
end
def Ite (K : PySem.W.Frag) (a : Addr) : It :=
  ⟨fun i H => ∃ (xs : List V) (x : V), SqL K H a xs ∧ xs[i]? = some x, fun i H v H' => ∃ T x, v = .ref T ∧ H T = none ∧ H' = upd H T (.tup [.int (i : Nat), x]) ∧ ∀ xs, SqL K H a xs → xs[i]? = some x, fun i H => ∃ xs : List V, SqL K H a xs ∧ xs.length ≤ i⟩
theorem turn_enum {P : Program} {w : World} {K : PySem.W.Frag} {elts : List Expr} {kk : Nat} {tpos : Pos} (a e it : Addr) :
    Turn P w K (.Tuple elts kk tpos) (Ite K a) [e, it] e (fun i h => (∃ old, IsEnum h e it ((i : Nat) : Int) old) ∧ h.IsListIter it a i ∧ e ≠ it) where
  mem := by simp
  obj := fun i h st b hb => by
    obtain ⟨⟨old, he⟩, ⟨o, ho, hc, hd⟩, _⟩ := st
    have e' : b = e ∨ b = it := by simpa using hb
    rcases e' with z | z
    · rw [z]; exact ⟨_, he, fun v q => nomatch q⟩
    · rw [z]; exact ⟨o, ho, fun v q => by rw [hd] at q; cases q⟩
  keep := fun i h h' st k => let ⟨⟨old, he⟩, hi, hne⟩ := st; ⟨⟨old, k e (by simp) _ he⟩, hi.at fun o q => k it (by simp) o q, hne⟩
  item := by
    intro X hP hw hK hc i pins s σ H E I hf st hg
    subst hP hw hK
    obtain ⟨⟨old, he⟩, hit, hne⟩ := st
    obtain ⟨xs, x, hq, hx⟩ := hg
    obtain ⟨its, rv, p, hz⟩ := I.list hq
    obtain ⟨u, hu, ru⟩ := rv.get hx
    have hel : e < s.heap.objs.size := Heap.lt_size he
    have hil : it < s.heap.objs.size := by obtain ⟨_, q, _⟩ := hit; exact Heap.lt_size q
    refine wpAny_pyNext_enum_item he hit p.isList (x := u) (by simpa using hu) hne fun h' ho hit' hT hsz hk => ?_
    refine ⟨_, rfl, wpAny_letOwnedTupleGo_enum (s := { s with heap := h', toks := s.toks + 1 }) ho fun h'' he' sb => ?_⟩
    have hT2 : h''.get? s.heap.objs.size = some { cls := .type "tuple", data := .seq #[.int i s.toks, u] } := (sb.2 _ (Nat.ne_of_gt hel)).trans hT
    have new : ObjOk X.prog X.w (upd H s.heap.objs.size (.tup [.int (i : Nat), x])) h'' s.heap.objs.size (.tup [.int (i : Nat), x]) :=
      ⟨by show 2 ≤ sizeLine; decide, [.int i s.toks, u], .cons ⟨_, rfl⟩ (.cons ru .nil), ⟨_, hT2, rfl, _, rfl⟩⟩
    have I1 : Inv X pins σ (upd H s.heap.objs.size (.tup [.int (i : Nat), x])) { s with heap := h'', toks := s.toks + 1 } :=
      I.turnedNew (ch := [e, it]) (fun b ob hb q => (sb.2 b (fun z => hb (by simp [z]))).trans (hk b ob (fun z => hb (by simp [z])) (fun z => hb (by simp [z])) q)) hf (Nat.le_refl _) new
    refine ⟨.ref s.heap.objs.size, _, I1, rfl, ⟨_, x, rfl, I.hok.fresh (Nat.le_refl _), rfl, fun ys hy => by rw [I.list_inj hy hq]; exact hx⟩, ⟨⟨u, ?_⟩, hit'.at fun o q => (sb.2 it (Ne.symm hne)).trans q, hne⟩, fun b hb => ?_⟩
    · have e1 : ((i + 1 : Nat) : Int) = (i : Int) + 1 := by omega
      rw [e1]; exact he'
    · have hb' : b < s.heap.objs.size := by
        have e' : b = e ∨ b = it := by simpa using hb
        rcases e' with z | z
        · rw [z]; exact hel
        · rw [z]; exact hil
      rw [upd_ne (Nat.ne_of_lt hb')]
      exact (hf b hb).1
  done := by
    intro X hP hw hK hc i pins s σ H E I hf st hg
    subst hP hw hK
    obtain ⟨⟨old, he⟩, hit, hne⟩ := st
    obtain ⟨xs, hq, hx⟩ := hg
    obtain ⟨its, rv, p, hz⟩ := I.list hq
    obtain ⟨f0, f1, f2, f3, f4, f5⟩ := hf it (by simp)
    have hl := rv.length
    exact wpAny_pyNext_enum_end (I.ok.hd hc) he hit p.isList (by simp; omega) fun h' eb => ⟨rfl, I.turned (t' := s.toks) (fun b o hb q => eb b o hb q) f0 f1 f3 f4 f5⟩
  self := fun A i s Q E st h => let ⟨⟨_, he⟩, _⟩ := st; wpAny_pyIter_enum he h
def iEnum (K : PySem.W.Frag) (ta : TA) : TI := fun σ H R => ta σ H fun vs H1 => ∃ a xs, vs = [.ref a] ∧ SqL K H1 a xs ∧ R (Ite K a) H1
theorem pi_enum {X : Cx} {e : Expr} {ta : TA} {p pos tpos : Pos} {elts : List Expr} {kk : Nat} (hg : Gl X "enumerate") (hm : X.mg "enumerate" = none) (ha : PA X [e] ta) (hs : starEach [e] X.env = [(false, eval e X.env)] := by rfl) :
    PI X (.Tuple elts kk tpos) (.Call (.Name "enumerate" p) [e] [] pos) (iEnum X.K ta) := by
  intro pins s σ H R I h
  refine Call_ (ld_blt I hg hm boot_enumerate (PyProof.Rows.callWith_type1 (thn (ha pos pins s σ H _ I h) fun us s1 ⟨vs, H1, I1, r1, q1⟩ => ?_) hs rfl))
  obtain ⟨a, xs, ex, hq, q⟩ := q1
  subst ex
  cases r1 with
  | cons r rr =>
    cases rr
    cases r
    obtain ⟨its, rv, p', hz⟩ := I1.list hq
    refine call_enumerate_list p'.isList fun h' he hit hsz hk => wpAny_pyIter_enum he ?_
    have I2 : Inv X pins σ H1 { s1 with heap := h' } := I1.kept (t' := s1.toks) hk
    refine ⟨s1.heap.objs.size + 1, [s1.heap.objs.size + 1, s1.heap.objs.size], _, _, H1, rfl, I2, turn_enum a (s1.heap.objs.size + 1) s1.heap.objs.size, ⟨⟨.none, he⟩, hit, Nat.succ_ne_self _⟩, fun b hb => ?_, q⟩
    have e' : b = s1.heap.objs.size + 1 ∨ b = s1.heap.objs.size := by simpa using hb
    have hle : s1.heap.objs.size ≤ b := by
      rcases e' with z | z
      · rw [z]; exact Nat.le_add_right _ _
      · rw [z]; exact Nat.le_refl _
    exact I1.fpOk hle (I1.hok.fresh hle)
theorem boot_zip5 : bootBuiltins "zip" = some (.type "zip") := by decide +kernel
def Itz (K : PySem.W.Frag) (a b : Addr) : It :=
  ⟨fun i H => ∃ (xs ys : List V) (x y : V), SqL K H a xs ∧ SqL K H b ys ∧ xs[i]? = some x ∧ ys[i]? = some y,
    fun i H v H' => ∃ T x y, v = .ref T ∧ H T = none ∧ H' = upd H T (.tup [x, y]) ∧ (∀ xs, SqL K H a xs → xs[i]? = some x) ∧ ∀ ys, SqL K H b ys → ys[i]? = some y,
    fun i H => ∃ xs ys : List V, SqL K H a xs ∧ SqL K H b ys ∧ (xs.length ≤ i ∨ ys.length ≤ i)⟩
theorem turn_zip {P : Program} {w : World} {K : PySem.W.Frag} {elts : List Expr} {kk : Nat} {tpos : Pos} {a b z TI TO i1 i2 : Addr} (D : ZipApart z TI TO i1 i2 a b) :
    Turn P w K (.Tuple elts kk tpos) (Itz K a b) [z, TI, TO, i1, i2] z (fun i h => IsZip h z TI TO .none ∧ IsPair h TI (.ref i1) (.ref i2) ∧ (∃ x y, IsPair h TO x y) ∧ h.IsListIter i1 a i ∧ h.IsListIter i2 b i) where
  mem := by simp
  obj := fun i h st c hc => by
    obtain ⟨hz, hTI, ⟨x, y, hTO⟩, ⟨o1, e1, _, d1⟩, ⟨o2, e2, _, d2⟩⟩ := st
    have e' : c = z ∨ c = TI ∨ c = TO ∨ c = i1 ∨ c = i2 := by simpa using hc
    rcases e' with q | q | q | q | q
    · rw [q]; exact ⟨_, hz, fun v q => nomatch q⟩
    · rw [q]; exact ⟨_, hTI, fun v q => nomatch q⟩
    · rw [q]; exact ⟨_, hTO, fun v q => nomatch q⟩
    · rw [q]; exact ⟨o1, e1, fun v q => by rw [d1] at q; cases q⟩
    · rw [q]; exact ⟨o2, e2, fun v q => by rw [d2] at q; cases q⟩
  keep := fun i h h' st k => by
    obtain ⟨hz, hTI, ⟨x, y, hTO⟩, h1, h2⟩ := st
    exact ⟨k z (by simp) _ hz, k TI (by simp) _ hTI, ⟨x, y, k TO (by simp) _ hTO⟩, h1.at fun o q => k i1 (by simp) o q, h2.at fun o q => k i2 (by simp) o q⟩
  item := by
    intro X hP hw hK hc i pins s σ H E I hf st hg
    subst hP hw hK
    obtain ⟨hz, hTI, ⟨x0, y0, hTO⟩, h1, h2⟩ := st
    obtain ⟨xs, ys, x, y, hqx, hqy, hx, hy⟩ := hg
    obtain ⟨its, rv, p, _⟩ := I.list hqx
    obtain ⟨its2, rv2, p2, _⟩ := I.list hqy
    obtain ⟨u, hu, ru⟩ := rv.get hx
    obtain ⟨u2, hu2, ru2⟩ := rv2.get hy
    have hzl : z < s.heap.objs.size := Heap.lt_size hz
    refine wpAny_pyNext_zip_item D hz hTI hTO h1 h2 p.isList p2.isList (x := u) (y := u2) (by simpa using hu) (by simpa using hu2) fun h' z' TO' h1' h2' hT hsz hk => ?_
    refine ⟨_, rfl, wpAny_letOwnedTupleGo_zip (s := { s with heap := h' }) z' fun h'' z'' sb => ?_⟩
    have hT2 : h''.get? s.heap.objs.size = some { cls := .type "tuple", data := .seq #[u, u2] } := (sb.2 _ (Nat.ne_of_gt hzl)).trans hT
    have new : ObjOk X.prog X.w (upd H s.heap.objs.size (.tup [x, y])) h'' s.heap.objs.size (.tup [x, y]) :=
      ⟨by show 2 ≤ sizeLine; decide, [u, u2], .cons ru (.cons ru2 .nil), ⟨_, hT2, rfl, _, rfl⟩⟩
    have I1 : Inv X pins σ (upd H s.heap.objs.size (.tup [x, y])) { s with heap := h'' } :=
      I.turnedNew (t' := s.toks) (ch := [z, TI, TO, i1, i2]) (fun c o hb q => (sb.2 c (fun q' => hb (by simp [q']))).trans (hk c o (fun q' => hb (by simp [q'])) (fun q' => hb (by simp [q'])) (fun q' => hb (by simp [q'])) (fun q' => hb (by simp [q'])) q)) hf (Nat.le_refl _) new
    refine ⟨.ref s.heap.objs.size, _, I1, rfl, ⟨_, x, y, rfl, I.hok.fresh (Nat.le_refl _), rfl, fun l hl => by rw [I.list_inj hl hqx]; exact hx, fun l hl => by rw [I.list_inj hl hqy]; exact hy⟩, ⟨z'', ?_, ⟨u, u2, ?_⟩, ?_, ?_⟩, fun c hcm => ?_⟩
    · exact (sb.2 _ D.TIz).trans (hk _ _ D.TIz D.TITO D.TIi1 D.TIi2 hTI)
    · exact (sb.2 _ D.TOz).trans TO'
    · exact h1'.at fun o q => (sb.2 _ D.i1z).trans q
    · exact h2'.at fun o q => (sb.2 _ D.i2z).trans q
    · have hlt : c < s.heap.objs.size := by
        have e' : c = z ∨ c = TI ∨ c = TO ∨ c = i1 ∨ c = i2 := by simpa using hcm
        rcases e' with q | q | q | q | q
        · rw [q]; exact hzl
        · rw [q]; exact Heap.lt_size hTI
        · rw [q]; exact Heap.lt_size hTO
        · rw [q]; obtain ⟨_, e1, _⟩ := h1; exact Heap.lt_size e1
        · rw [q]; obtain ⟨_, e2, _⟩ := h2; exact Heap.lt_size e2
      rw [upd_ne (Nat.ne_of_lt hlt)]
      exact (hf c hcm).1
  done := by
    intro X hP hw hK hc i pins s σ H E I hf st hg
    subst hP hw hK
    obtain ⟨hz, hTI, ⟨x0, y0, hTO⟩, h1, h2⟩ := st
    obtain ⟨xs, ys, hqx, hqy, hend⟩ := hg
    obtain ⟨its, rv, p, _⟩ := I.list hqx
    obtain ⟨its2, rv2, p2, _⟩ := I.list hqy
    have l1 := rv.length
    have l2 := rv2.length
    have he : its.toArray[i]? = none ∨ its2.toArray[i]? = none := by
      rcases hend with q | q
      · exact .inl (by simp; omega)
      · exact .inr (by simp; omega)
    exact wpAny_pyNext_zip_end (I.ok.hd hc) D hz hTI hTO h1 h2 p.isList p2.isList he fun h' hk => ⟨rfl, I.turnedL (t' := s.toks) (ch := [z, TI, TO, i1, i2]) (fun c o hb q =>
      hk c o (fun q' => hb (by simp [q'])) (fun q' => hb (by simp [q'])) (fun q' => hb (by simp [q'])) (fun q' => hb (by simp [q'])) q) hf⟩
  self := fun A i s Q E st h => wpAny_pyIter_zip st.1 h
def iZip (K : PySem.W.Frag) (ta : TA) : TI := fun σ H R => ta σ H fun vs H1 => ∃ a b xs ys, vs = [.ref a, .ref b] ∧ SqL K H1 a xs ∧ SqL K H1 b ys ∧ R (Itz K a b) H1
theorem pi_zip {X : Cx} {e e2 : Expr} {ta : TA} {p pos tpos : Pos} {elts : List Expr} {kk : Nat} (hg : Gl X "zip") (hm : X.mg "zip" = none) (ha : PA X [e, e2] ta)
    (hs : starEach [e, e2] X.env = (false, eval e X.env) :: starEach [e2] X.env := by rfl) (hpl : (backTo pos (starEach [e2] X.env)).any (·.1) = false := by rfl) :
    PI X (.Tuple elts kk tpos) (.Call (.Name "zip" p) [e, e2] [] pos) (iZip X.K ta) := by
  intro pins s σ H R I h
  refine Call_ (ld_blt I hg hm boot_zip5 (PyProof.Rows.callWith_type1 (thn (ha pos pins s σ H _ I h) fun us s1 ⟨vs, H1, I1, r1, q1⟩ => ?_) hs hpl))
  obtain ⟨a, b, xs, ys, ex, hqx, hqy, q⟩ := q1
  subst ex
  cases r1 with
  | cons r rr =>
    cases rr with
    | cons r' rr =>
      cases rr
      cases r
      cases r'
      obtain ⟨its, rv, p1, _⟩ := I1.list hqx
      obtain ⟨its2, rv2, p2, _⟩ := I1.list hqy
      have la : a < s1.heap.objs.size := p1.lt
      have lb : b < s1.heap.objs.size := p2.lt
      refine call_zip_2 p1.isList p2.isList fun h' hz hTI hTO h1 h2 hsz hk => wpAny_pyIter_zip hz ?_
      have I2 : Inv X pins σ H1 { s1 with heap := h' } := I1.kept (t' := s1.toks) hk
      refine ⟨s1.heap.objs.size + 4, [s1.heap.objs.size + 4, s1.heap.objs.size + 2, s1.heap.objs.size + 3, s1.heap.objs.size, s1.heap.objs.size + 1], _, _, H1, rfl, I2, turn_zip (PySem.W.ktu_apart s1.heap.objs.size a b la lb), ⟨hz, hTI, ⟨_, _, hTO⟩, h1, h2⟩, fun c hcm => ?_, q⟩
      have e' : c = s1.heap.objs.size + 4 ∨ c = s1.heap.objs.size + 2 ∨ c = s1.heap.objs.size + 3 ∨ c = s1.heap.objs.size ∨ c = s1.heap.objs.size + 1 := by simpa using hcm
      have hle : s1.heap.objs.size ≤ c := by
        rcases e' with z | z | z | z | z
        · rw [z]; exact Nat.le_add_right _ _
        · rw [z]; exact Nat.le_add_right _ _
        · rw [z]; exact Nat.le_add_right _ _
        · rw [z]; exact Nat.le_refl _
        · rw [z]; exact Nat.le_add_right _ _
      exact I1.fpOk hle (I1.hok.fresh hle)
end L2
section 
namespace Bits
open PySem PyProof.Rows
end Bits
end 
section 
namespace TL
open PySem PySem.Builtin PySem.Builtin.Str PySem.StrLaws
end TL
end 
namespace L2
open PySem PySem.Spec PyProof.Rows
section
variable {X : Cx} {pins : List (Addr × Obj)} {σ : St} {H : Hp} {s : Shared} {Q : VK}
end
section
variable {X : Cx}
end
section
variable {X : Cx} {o e : Expr} {to te : TE}
end
end L2
namespace L2
open PySem PySem.Spec PyProof.Rows
section
variable {X : Cx}
end
end L2
namespace Att
open PySem PySem.W PySem.Calls PyProof.Rows
section
variable {prog : Program} {w : World} {A : Around} {E : Value → Shared → Prop} {s : Shared} {K : Frag}
end
end Att
namespace L2
open PySem PySem.Spec PyProof.Rows
end L2
namespace L2
open PySem PySem.Spec PyProof.Rows
abbrev KOf {K : PySem.W.Frag} {h : Heap} (_ : K.In h) : PySem.W.Frag := K
end L2
namespace L2
open PySem PySem.Spec PyProof.Rows
def inClass (s : Stmt) (j : Nat) : Stmt := match s with
  | .ClassDef _ _ _ body _ _ _ _ _ _ _ => body.getD j (.Pass ⟨0, 0, 0, 0⟩)
  | _ => .Pass ⟨0, 0, 0, 0⟩
def defArgs (s : Stmt) : Arguments := match s with
  | .FunctionDef _ a _ _ _ _ _ _ _ _ => a
  | _ => { posonlyargs := [], args := [], vararg := none, kwonlyargs := [], kw_defaults := [], kwarg := none, defaults := [] }
def defBody (s : Stmt) : List Stmt := match s with
  | .FunctionDef _ _ b _ _ _ _ _ _ _ => b
  | _ => []
def defScope (s : Stmt) : Scope := match s with
  | .FunctionDef _ _ _ _ _ _ sc _ _ _ => sc
  | _ => { kind := .function, names := [], isGenerator := false, isCoroutine := false }
abbrev CX0 : CXT := fun _ _ _ _ _ _ => False
abbrev E0 : XK := fun _ _ _ => False
theorem pass0 {X : Cx} : Passes CX0 X E0 := fun _ _ _ _ _ _ _ h => h.elim
structure Fun (K : PySem.W.Frag) (x qual : Str) (st : Stmt) (f : Addr) (fd : FuncData) : Prop where
  ex : ∃ (oc : Value) (od : Option Addr) (kV doc pm : Value) (an : Option Addr) (cdv ct : Value) (osl : Array (Option Value)),
    fd = PySem.W.fnOf x qual (defArgs st) (defBody st) (defScope st) .none kV doc pm an cdv ct ∧ K.lookup f = some ⟨oc, od, .func fd, osl⟩ ∧ PySem.W.codeIn K cdv qual = true
  kp : PySem.W.keepIn K (.ref f) = true
section
variable {P : Program} {w : World} {K : PySem.W.Frag} {mg : Str → Option Value} {base : Heap}
theorem Fun.ok {x qual : Str} {st : Stmt} {f : Addr} {fd : FuncData} {N ps : List Str} {k : Nat} {sp : Sp} (F : Fun K x qual st f fd) (S : FnScope N ps (defScope st)) (len : ∀ vs H Q E, sp vs H Q E → vs.length = ps.length)
    (hbody : ∀ (cdv : Value) (A : Around) (outer : List Env) (s : Shared) (H : Hp) (vs : List V) (Q : VK) (E : XK), Room k (A.deeper (envOfC qual (defScope st) s.heap.objs.size f cdv)) → sp vs H Q E →
      ∃ t, PSs (cxOf CX0 P w K mg base N qual (defScope st) f cdv A outer s H E).nox (defBody st) t ∧ t { nx := fun _ H' => Q .non H', rt := Q } (start N vs) H) : FnOk P w K mg base CX0 (k + 1) f fd ps sp := by
  obtain ⟨oc, od, kV, doc, pm, an, cdv, ct, osl, rfl, lk, hcd⟩ := F.ex
  refine fn_of lk hcd S len fun A outer s H vs Q E hr hsp => ?_
  obtain ⟨t, h, q⟩ := hbody cdv A outer s H vs Q E hr hsp
  exact ⟨t, h.nox, q⟩
theorem Fun.binds {x qual : Str} {st : Stmt} {f : Addr} {fd : FuncData} {ps : List Str} (F : Fun K x qual st f fd)
    (h : ∀ (kV doc pm : Value) (an : Option Addr) (cdv ct : Value) (us : List Value), us.length = ps.length → bindArgs (PySem.W.fnOf x qual (defArgs st) (defBody st) (defScope st) .none kV doc pm an cdv ct) ⟨us, []⟩ = pure (ps.zip us)) : Binds K fd ps [] := by
  obtain ⟨oc, od, kV, doc, pm, an, cdv, ct, osl, rfl, lk, hcd⟩ := F.ex
  exact .all (h kV doc pm an cdv ct)
theorem fun_mk {x qual : Str} {st : Stmt} {f : Addr} {oc : Value} {od an : Option Addr} {osl : Array (Option Value)} {kV doc pm cdv ct : Value} (l : K.lookup f = some ⟨oc, od, .func (PySem.W.fnOf x qual (defArgs st) (defBody st) (defScope st) .none kV doc pm an cdv ct), osl⟩)
    (c : PySem.W.codeIn K cdv qual = true) (k : PySem.W.keepIn K (.ref f) = true) : Fun K x qual st f (PySem.W.fnOf x qual (defArgs st) (defBody st) (defScope st) .none kV doc pm an cdv ct) := ⟨⟨oc, od, kV, doc, pm, an, cdv, ct, osl, rfl, l, c⟩, k⟩
end
section
variable {X : Cx}
theorem pv (i : Nat) {x : Str} {pos : Pos} (hN : X.N[i]? = some x := by rfl) (hv : Vis X.env.scope x := by first | exact Or.inl rfl | exact Or.inr (Or.inl rfl) | exact Or.inr (Or.inr rfl)) (hd : (x == ("__debug__" : Str)) = false := by decide)
    (hcd : (x == ("__classdict__" : Str)) = false := by decide) : PE X (.Name x pos) (tVar i) := pe_var hN hv hd hcd
end
theorem ite2 {c A B : Prop} [Decidable c] (h1 : c → A) (h2 : ¬ c → B) : if c then A else B := by
  by_cases h : c
  · rw [if_pos h]
    exact h1 h
  · rw [if_neg h]
    exact h2 h
def Same (H H' : Hp) : Prop := ∀ b o, H b = some o → H' b = some o
theorem Same.refl (H : Hp) : Same H H := fun _ _ h => h
theorem Same.trans {H H1 H2 : Hp} (a : Same H H1) (b : Same H1 H2) : Same H H2 := fun c o h => b c o (a c o h)
theorem Same.free {H H' : Hp} (e : Same H H') {l : Addr} (h : H' l = Option.none) : H l = Option.none := by
  cases q : H l with
  | none => rfl
  | some o =>
    rw [e l o q] at h
    cases h
theorem Same.seq {K : PySem.W.Frag} {H H' : Hp} {a : Addr} {xs : List V} (e : Same H H') (h : SqL K H a xs) : SqL K H' a xs := by
  rcases h with (h | ⟨o, h⟩) | h
  · exact .inl (.inl (e _ _ h))
  · exact .inl (.inr ⟨o, e _ _ h⟩)
  · exact .inr h
section
variable {κ : Type} [DecidableEq κ]
theorem nd_snoc : ∀ {l : List κ} {k : κ}, l.Nodup → ¬ k ∈ l → (l ++ [k]).Nodup
  | [], k, _, _ => by simp
  | a :: r, k, h, hk => by
    obtain ⟨h1, h2⟩ := List.nodup_cons.mp h
    show (a :: (r ++ [k])).Nodup
    refine List.nodup_cons.mpr ⟨fun m => ?_, nd_snoc h2 fun m => hk (List.mem_cons.mpr (Or.inr m))⟩
    rcases List.mem_append.mp m with q | q
    · exact h1 q
    · exact hk (List.mem_cons.mpr (Or.inl (List.mem_singleton.mp q).symm))
end
theorem nd_ix {α : Type} {l : List α} (hN : l.Nodup) {i j : Nat} {x : α} (a : l[i]? = some x) (b : l[j]? = some x) : i = j := by
  obtain ⟨h1, e1⟩ := List.getElem?_eq_some_iff.mp a
  obtain ⟨h2, e2⟩ := List.getElem?_eq_some_iff.mp b
  exact (List.getElem_inj hN).mp (e1.trans e2.symm)
theorem Same.made {H H1 : Hp} {x dx C : Addr} (nx : H x = Option.none) (nd : H dx = Option.none) (k : ∀ b o, (upd (upd H dx (.own x)) x (.ins C dx [])) b = some o → b ≠ x → H1 b = some o) : Same H H1 := fun b o e =>
  k b o (by rw [upd_ne (ne_of_none e nx), upd_ne (ne_of_none e nd)]; exact e) (ne_of_none e nx)
end L2
section
namespace L2
open PySem PySem.Spec PyProof.Rows
open PySem.W (WData Codec OpenSpec Well WellAll ReadsW ReadsAllW)
mutual
inductive Dw (K : PySem.W.Frag) (H : Hp) : V → WData → Prop
  | non : Dw K H .non .none
  | bl (b : Bool) : Dw K H (.bl b) (.bool b)
  | int (i : Int) : Dw K H (.int i) (.int i)
  | str (x : Str) : Dw K H (.str x) (.str x)
  | byt (b : Array UInt8) : Dw K H (.byt b) (.bytes b.toList)
  | lst {a : Addr} {xs : List V} {ds : List WData} : SqL K H a xs → DwAll K H xs ds → Dw K H (.ref a) (.list ds)
  | tup {a : Addr} {xs : List V} {ds : List WData} : SqT K H a xs → DwAll K H xs ds → Dw K H (.ref a) (.tuple ds)
inductive DwAll (K : PySem.W.Frag) (H : Hp) : List V → List WData → Prop
  | nil : DwAll K H [] []
  | cons {v : V} {vs : List V} {d : WData} {ds : List WData} : Dw K H v d → DwAll K H vs ds → DwAll K H (v :: vs) (d :: ds)
end
theorem dw_ints {K : PySem.W.Frag} {H : Hp} : ∀ ns : List Int, DwAll K H (ns.map V.int) (ns.map WData.int)
  | [] => .nil
  | n :: r => .cons (.int n) (dw_ints r)
theorem ints_dw {K : PySem.W.Frag} {H : Hp} : ∀ (ns : List Int) (xs : List V), DwAll K H xs (ns.map WData.int) → xs = ns.map V.int
  | [], xs, h => by
    cases h
    rfl
  | n :: r, xs, h => by
    cases h with
    | cons h1 h2 =>
      cases h1
      rw [ints_dw r _ h2] <;> rfl
section
variable {P : Program} {w : World} {K : PySem.W.Frag} {H : Hp} {h : Heap} {R : PySem.W.WRecords} {cl : Str → Option Addr}
theorem sqL_at {a : Addr} {xs : List V} (hok : HOk P w H h) (KX : K.In h) (q : SqL K H a xs) : ∃ (its : List Value) (o : Obj) (n : Nat), Vals xs its ∧ h.get? a = some o ∧ o.cls = .type "list" ∧ o.data = .seq its.toArray n := by
  rcases q with q | ⟨o, its, n, e, hc, _, hd, _, hv⟩
  · obtain ⟨_, its, n, hv, e⟩ := (show ObjOk P w H h a (.lst xs) from q.ok hok)
    exact ⟨its, _, n, hv, e, rfl, rfl⟩
  · exact ⟨its.toList, o, n, hv, KX _ _ e, hc, by simp [hd]⟩
theorem sqT_at {a : Addr} {xs : List V} (hok : HOk P w H h) (KX : K.In h) (q : SqT K H a xs) : ∃ (its : List Value) (o : Obj) (n : Nat), Vals xs its ∧ h.get? a = some o ∧ o.cls = .type "tuple" ∧ o.data = .seq its.toArray n := by
  rcases q with q | ⟨o, its, n, e, hc, hd, _, hv⟩
  · obtain ⟨_, its, hv, o, e, hc, n, hd⟩ := (show ObjOk P w H h a (.tup xs) from q.ok hok)
    exact ⟨its, o, n, hv, e, hc, hd⟩
  · exact ⟨its.toList, o, n, hv, KX _ _ e, hc, by simp [hd]⟩
mutual
theorem Dw.reads (hok : HOk P w H h) (KX : K.In h) : ∀ (d : WData) (v : V) (u : Value), Dw K H v d → RelV v u → ∃ as, ReadsW R cl h u d as
  | .none, _, _, x, r => by
    cases x
    cases r
    exact ⟨_, ReadsW.none⟩
  | .bool b, _, _, x, r => by
    cases x
    cases r
    exact ⟨_, ReadsW.bool b⟩
  | .int i, _, _, x, r => by
    cases x
    obtain ⟨t, rfl⟩ := r
    exact ⟨_, ReadsW.int i t⟩
  | .str s, _, _, x, r => by
    cases x
    obtain ⟨t, rfl⟩ := r
    exact ⟨_, ReadsW.str s t⟩
  | .bytes b, _, _, x, r => by
    cases x
    obtain ⟨t, rfl⟩ := r
    exact ⟨_, ReadsW.bytes _ t⟩
  | .list ds, _, _, x, r => by
    cases x with
    | lst hs ha =>
      cases r
      obtain ⟨its, o, n, rv, ho, hc, hd⟩ := sqL_at hok KX hs
      obtain ⟨as, hr⟩ := Dw.readsAll hok KX ds _ its ha rv
      exact ⟨_, ReadsW.list ho hc hd hr⟩
  | .tuple ds, _, _, x, r => by
    cases x with
    | tup hs ha =>
      cases r
      obtain ⟨its, o, n, rv, ho, hc, hd⟩ := sqT_at hok KX hs
      obtain ⟨as, hr⟩ := Dw.readsAll hok KX ds _ its ha rv
      exact ⟨_, ReadsW.tuple ho hc hd hr⟩
  | .float _, _, _, x, _ => by cases x
  | .dict _, _, _, x, _ => by cases x
  | .bytearray _, _, _, x, _ => by cases x
  | .set _, _, _, x, _ => by cases x
  | .frozenset _, _, _, x, _ => by cases x
  | .obj _ _, _, _, x, _ => by cases x
theorem Dw.readsAll (hok : HOk P w H h) (KX : K.In h) : ∀ (ds : List WData) (vs : List V) (us : List Value), DwAll K H vs ds → Vals vs us → ∃ as, ReadsAllW R cl h us ds as
  | [], _, _, x, r => by
    cases x
    cases r
    exact ⟨_, ReadsAllW.nil⟩
  | d :: ds, _, _, x, r => by
    cases x with
    | cons h1 h2 =>
      cases r with
      | cons r1 r2 =>
        obtain ⟨as, q1⟩ := Dw.reads hok KX d _ _ h1 r1
        obtain ⟨bs, q2⟩ := Dw.readsAll hok KX ds _ _ h2 r2
        exact ⟨_, ReadsAllW.cons q1 q2⟩
end
end
mutual
def plW : WData → Bool
  | .none => true
  | .bool _ => true
  | .int _ => true
  | .str _ => true
  | .bytes _ => true
  | .list xs => plWs xs
  | .tuple xs => plWs xs
  | _ => false
def plWs : List WData → Bool
  | [] => true
  | x :: r => plW x && plWs r
end
theorem plWs_map {α : Type} {f : α → WData} (h : ∀ a, plW (f a) = true) : ∀ l : List α, plWs (l.map f) = true
  | [] => rfl
  | x :: r => by
    show (plW (f x) && plWs (r.map f)) = true
    rw [h x, plWs_map h r] <;> rfl
theorem pl_enc : ∀ (c : Codec) (a : c.denote), plW (c.enc a) = true
  | .unit, _ => rfl
  | .bool, _ => rfl
  | .int _ _, _ => rfl
  | .nat _ _, _ => rfl
  | .u8, _ => rfl
  | .bytes _ _, _ => rfl
  | .text _ _ _ _, _ => rfl
  | .list _ _ c, a => plWs_map (fun x => pl_enc c x) a
  | .pair c d, a => by
    show (plW (c.enc a.1) && (plW (d.enc a.2) && true)) = true
    rw [pl_enc c a.1, pl_enc d a.2] <;> rfl
  | .triple c d e, a => by
    show (plW (c.enc a.1) && (plW (d.enc a.2.1) && (plW (e.enc a.2.2) && true))) = true
    rw [pl_enc c a.1, pl_enc d a.2.1, pl_enc e a.2.2] <;> rfl
  | .option c, none => rfl
  | .option c, some x => pl_enc c x
theorem pl_encAll : ∀ (cs : List Codec) (a : Codec.denoteAll cs), plWs (Codec.encAll cs a) = true
  | [], _ => rfl
  | c :: cs, a => by
    show (plW (c.enc a.1) && plWs (Codec.encAll cs a.2)) = true
    rw [pl_enc c a.1, pl_encAll cs a.2] <;> rfl
theorem weight_mem : ∀ {xs : List WData} {d : WData}, d ∈ xs → d.weight ≤ WData.weightAll xs
  | [], d, h => absurd h (by simp)
  | x :: r, d, h => by
    show d.weight ≤ x.weight + 1 + WData.weightAll r
    rcases List.mem_cons.mp h with e | m
    · rw [e]
      omega
    · have z := weight_mem m
      omega
def toV : Value → V
  | .none => .non
  | .bool b => .bl b
  | .int i _ => .int i
  | .str x _ => .str x
  | .bytes b _ => .byt b
  | .ref a => .ref a
  | _ => .non
def OkU (A : List Addr) : Value → Prop
  | .none => True
  | .bool _ => True
  | .int _ _ => True
  | .str _ _ => True
  | .bytes _ _ => True
  | .ref a => a ∈ A
  | _ => False
theorem OkU.mono {A B : List Addr} (h : ∀ a ∈ A, a ∈ B) : ∀ {u : Value}, OkU A u → OkU B u := fun {u} x => by
  cases u with
  | ref a => exact h a x
  | none => trivial
  | bool b => trivial
  | int i t => trivial
  | str s t => trivial
  | bytes b t => trivial
  | _ => exact False.elim x
theorem relV_toV {A : List Addr} {u : Value} (x : OkU A u) : RelV (toV u) u := by
  cases u with
  | ref a => rfl
  | none => rfl
  | bool b => rfl
  | int i t => exact ⟨t, rfl⟩
  | str s t => exact ⟨t, rfl⟩
  | bytes b t => exact ⟨t, rfl⟩
  | _ => exact False.elim x
theorem vals_toV {A : List Addr} : ∀ {vs : List Value}, (∀ u ∈ vs, OkU A u) → Vals (vs.map toV) vs
  | [], _ => .nil
  | u :: r, h => .cons (relV_toV (h u (List.mem_cons_self ..))) (vals_toV fun x hx => h x (List.mem_cons_of_mem _ hx))
def ArgOb (h : Heap) (A : List Addr) (a : Addr) : Prop := ∃ vs : List Value, vs.length ≤ sizeLine ∧ (∀ u ∈ vs, OkU A u) ∧
  (h.get? a = some { cls := .type "list", data := .seq vs.toArray } ∨ h.get? a = some { cls := .type "tuple", data := .seq vs.toArray })
theorem ArgOb.mono {h : Heap} {A B : List Addr} {a : Addr} (k : ∀ a ∈ A, a ∈ B) (x : ArgOb h A a) : ArgOb h B a := by
  obtain ⟨vs, h1, h2, h3⟩ := x
  exact ⟨vs, h1, fun u hu => (h2 u hu).mono k, h3⟩
theorem wellAll_len {P : Params} {h : Heap} : ∀ {vs : List Value} {ds : List WData}, WellAll P h vs ds → vs.length = ds.length
  | _, _, .nil => rfl
  | _, _, .cons _ b => by
    show _ + 1 = _ + 1
    rw [wellAll_len b]
theorem well_list {P : Params} {h : Heap} {v : Value} {ds : List WData} (x : Well P h v (.list ds)) : ∃ (a : Addr) (vs : List Value), v = .ref a ∧ h.get? a = some { cls := .type "list", data := .seq vs.toArray } ∧ WellAll P h vs ds := by
  cases x with
  | list ho hall => exact ⟨_, _, rfl, ho, hall⟩
theorem well_tuple {P : Params} {h : Heap} {v : Value} {ds : List WData} (x : Well P h v (.tuple ds)) : ∃ (a : Addr) (vs : List Value), v = .ref a ∧ h.get? a = some { cls := .type "tuple", data := .seq vs.toArray } ∧ WellAll P h vs ds := by
  cases x with
  | tuple ho hall => exact ⟨_, _, rfl, ho, hall⟩
theorem well_cons {P : Params} {h : Heap} {us : List Value} {d : WData} {ds : List WData} (x : WellAll P h us (d :: ds)) : ∃ (v : Value) (vs : List Value), us = v :: vs ∧ Well P h v d ∧ WellAll P h vs ds := by
  cases x with
  | cons a b => exact ⟨_, _, rfl, a, b⟩
theorem line_of {n : Nat} (h : n ≤ 1048576) : n ≤ sizeLine := Nat.le_trans h (by decide)
section
variable {P : Params} {h : Heap}
mutual
theorem area_one : ∀ (d : WData) (v : Value), Well P h v d → plW d = true → d.weight ≤ 1048576 → ∃ A : List Addr, OkU A v ∧ ∀ a ∈ A, ArgOb h A a
  | .none, _, x, _, _ => by
    cases x
    exact ⟨[], trivial, fun a m => absurd m (by simp)⟩
  | .bool b, _, x, _, _ => by
    cases x
    exact ⟨[], trivial, fun a m => absurd m (by simp)⟩
  | .int i, _, x, _, _ => by
    cases x
    exact ⟨[], trivial, fun a m => absurd m (by simp)⟩
  | .str s, _, x, _, _ => by
    cases x
    exact ⟨[], trivial, fun a m => absurd m (by simp)⟩
  | .bytes b, _, x, _, _ => by
    cases x
    exact ⟨[], trivial, fun a m => absurd m (by simp)⟩
  | .list ds, _, x, p, z => by
    obtain ⟨a, vs, rfl, ho, hall⟩ := well_list x
    have z2 : WData.weightAll ds ≤ 1048576 := z
    obtain ⟨A, h1, h2⟩ := area_all ds _ hall p fun d hd => Nat.le_trans (weight_mem hd) z2
    have k : ∀ b ∈ A, b ∈ a :: A := fun b hb => List.mem_cons_of_mem _ hb
    refine ⟨a :: A, List.mem_cons_self .., fun b hb => ?_⟩
    rcases List.mem_cons.mp hb with e | m
    · rw [e]
      exact ⟨vs, line_of (by rw [wellAll_len hall]; exact Nat.le_trans (PySem.W.length_le_weightAllW ds) z2), fun u hu => (h1 u hu).mono k, .inl ho⟩
    · exact (h2 b m).mono k
  | .tuple ds, _, x, p, z => by
    obtain ⟨a, vs, rfl, ho, hall⟩ := well_tuple x
    have z2 : WData.weightAll ds ≤ 1048576 := z
    obtain ⟨A, h1, h2⟩ := area_all ds _ hall p fun d hd => Nat.le_trans (weight_mem hd) z2
    have k : ∀ b ∈ A, b ∈ a :: A := fun b hb => List.mem_cons_of_mem _ hb
    refine ⟨a :: A, List.mem_cons_self .., fun b hb => ?_⟩
    rcases List.mem_cons.mp hb with e | m
    · rw [e]
      exact ⟨vs, line_of (by rw [wellAll_len hall]; exact Nat.le_trans (PySem.W.length_le_weightAllW ds) z2), fun u hu => (h1 u hu).mono k, .inr ho⟩
    · exact (h2 b m).mono k
  | .float _, _, _, p, _ => Bool.noConfusion (show false = true from p)
  | .dict _, _, _, p, _ => Bool.noConfusion (show false = true from p)
  | .bytearray _, _, _, p, _ => Bool.noConfusion (show false = true from p)
  | .set _, _, _, p, _ => Bool.noConfusion (show false = true from p)
  | .frozenset _, _, _, p, _ => Bool.noConfusion (show false = true from p)
  | .obj _ _, _, _, p, _ => Bool.noConfusion (show false = true from p)
theorem area_all : ∀ (ds : List WData) (vs : List Value), WellAll P h vs ds → plWs ds = true → (∀ d ∈ ds, d.weight ≤ 1048576) → ∃ A : List Addr, (∀ u ∈ vs, OkU A u) ∧ ∀ a ∈ A, ArgOb h A a
  | [], _, x, _, _ => by
    cases x
    exact ⟨[], fun u m => absurd m (by simp), fun a m => absurd m (by simp)⟩
  | d :: ds, _, x, p, z => by
    obtain ⟨v, vs, rfl, x1, x2⟩ := well_cons x
    have q : plW d = true ∧ plWs ds = true := Bool.and_eq_true_iff.mp p
    obtain ⟨A, a1, a2⟩ := area_one d v x1 q.1 (z d (List.mem_cons_self ..))
    obtain ⟨B, b1, b2⟩ := area_all ds vs x2 q.2 fun e he => z e (List.mem_cons_of_mem _ he)
    have kA : ∀ b ∈ A, b ∈ A ++ B := fun b hb => List.mem_append.mpr (.inl hb)
    have kB : ∀ b ∈ B, b ∈ A ++ B := fun b hb => List.mem_append.mpr (.inr hb)
    refine ⟨A ++ B, fun u hu => ?_, fun b hb => ?_⟩
    · rcases List.mem_cons.mp hu with e | m
      · rw [e]
        exact a1.mono kA
      · exact (b1 u m).mono kB
    · rcases List.mem_append.mp hb with m | m
      · exact (a2 b m).mono kA
      · exact (b2 b m).mono kB
end
end
def hoOf (o : Obj) : Option HO := match o.data with
  | .seq vs _ => if (o.cls == Value.type "list") = true then some (.frz o (.lst (vs.toList.map toV))) else some (.frz o (.tup (vs.toList.map toV)))
  | _ => none
def argH (K : PySem.W.Frag) (h : Heap) (A : List Addr) : Hp := fun b => if b ∈ A then (if (K.lookup b).isNone = true then (h.get? b).bind hoOf else none) else none
def OnlyF (H : Hp) : Prop := ∀ b, H b = none ∨ ∃ o u, H b = some (.frz o u)
theorem hoOf_lst (vs : List Value) : hoOf { cls := .type "list", data := .seq vs.toArray } = some (.frz { cls := .type "list", data := .seq vs.toArray } (.lst (vs.map toV))) := by
  show (if (Value.type "list" == Value.type "list") = true then some (HO.frz { cls := .type "list", data := .seq vs.toArray } (.lst (vs.toArray.toList.map toV))) else some (HO.frz { cls := .type "list", data := .seq vs.toArray } (.tup (vs.toArray.toList.map toV)))) = _
  rw [if_pos (beq_self_eq_true _)]
theorem hoOf_tup (vs : List Value) : hoOf { cls := .type "tuple", data := .seq vs.toArray } = some (.frz { cls := .type "tuple", data := .seq vs.toArray } (.tup (vs.map toV))) := by
  show (if (Value.type "tuple" == Value.type "list") = true then some (HO.frz { cls := .type "tuple", data := .seq vs.toArray } (.lst (vs.toArray.toList.map toV))) else some (HO.frz { cls := .type "tuple", data := .seq vs.toArray } (.tup (vs.toArray.toList.map toV)))) = _
  rw [if_neg (by decide)]
section
variable {P : Program} {w : World} {K : PySem.W.Frag} {h : Heap} {A : List Addr}
theorem argH_at {b : Addr} {o : Obj} (hb : b ∈ A) (hk : K.lookup b = none) (e : h.get? b = some o) : argH K h A b = hoOf o := by
  unfold argH
  rw [if_pos hb, hk, if_pos (show (none : Option Obj).isNone = true from rfl), e] <;> rfl
theorem of_argH {b : Addr} {u : HO} (q : argH K h A b = some u) : b ∈ A ∧ K.lookup b = none := by
  unfold argH at q
  by_cases hb : b ∈ A
  · rw [if_pos hb] at q
    cases hk : K.lookup b with
    | none => exact ⟨hb, rfl⟩
    | some o =>
      rw [hk, if_neg (by simp)] at q
      cases q
  · rw [if_neg hb] at q
    cases q
theorem argH_is (ar : ∀ a ∈ A, ArgOb h A a) {b : Addr} {u : HO} (q : argH K h A b = some u) : K.lookup b = none ∧ ∃ vs : List Value, vs.length ≤ sizeLine ∧ (∀ u ∈ vs, OkU A u) ∧
    ((h.get? b = some { cls := .type "list", data := .seq vs.toArray } ∧ u = .frz { cls := .type "list", data := .seq vs.toArray } (.lst (vs.map toV))) ∨
     (h.get? b = some { cls := .type "tuple", data := .seq vs.toArray } ∧ u = .frz { cls := .type "tuple", data := .seq vs.toArray } (.tup (vs.map toV)))) := by
  obtain ⟨hb, hk⟩ := of_argH q
  obtain ⟨vs, h1, h2, h3⟩ := ar b hb
  refine ⟨hk, vs, h1, h2, ?_⟩
  rcases h3 with e | e
  · rw [argH_at hb hk e, hoOf_lst] at q
    exact .inl ⟨e, (Option.some.inj q).symm⟩
  · rw [argH_at hb hk e, hoOf_tup] at q
    exact .inr ⟨e, (Option.some.inj q).symm⟩
theorem argH_only (ar : ∀ a ∈ A, ArgOb h A a) : OnlyF (argH K h A) := fun b => by
  cases q : argH K h A b with
  | none => exact .inl rfl
  | some u =>
    obtain ⟨_, vs, _, _, ⟨_, e⟩ | ⟨_, e⟩⟩ := argH_is ar q
    · exact .inr ⟨_, _, by rw [e]⟩
    · exact .inr ⟨_, _, by rw [e]⟩
theorem argH_ok (ar : ∀ a ∈ A, ArgOb h A a) : HOk P w (argH K h A) h := fun b u q => by
  obtain ⟨_, vs, h1, h2, ⟨e, rfl⟩ | ⟨e, rfl⟩⟩ := argH_is ar q
  · exact ⟨e, by rw [List.length_map]; exact h1, vs, _, vals_toV h2, e⟩
  · exact ⟨e, by rw [List.length_map]; exact h1, vs, vals_toV h2, _, e, rfl, _, rfl⟩
theorem seq_inj {c c' : Value} {vs us : List Value} (e : (some { cls := c, data := .seq vs.toArray } : Option Obj) = some { cls := c', data := .seq us.toArray }) : c = c' ∧ vs = us := by
  have e1 := Option.some.inj e
  have e2 : c = c' := congrArg Obj.cls e1
  have e3 : Data.seq vs.toArray = Data.seq us.toArray := congrArg Obj.data e1
  injection e3 with e4
  refine ⟨e2, ?_⟩
  have e5 := congrArg Array.toList e4
  simpa using e5
theorem argL (KX : K.In h) (ar : ∀ a ∈ A, ArgOb h A a) {a : Addr} {vs : List Value} (ha : a ∈ A) (e : h.get? a = some { cls := .type "list", data := .seq vs.toArray }) : (∀ u ∈ vs, OkU A u) ∧ SqL K (argH K h A) a (vs.map toV) := by
  obtain ⟨us, h1, h2, h3⟩ := ar a ha
  have hu : us = vs := by
    rcases h3 with q | q
    · rw [e] at q
      exact (seq_inj q).2.symm
    · rw [e] at q
      exact absurd (Value.type.inj (seq_inj q).1) (by decide)
  subst hu
  refine ⟨h2, ?_⟩
  cases hk : K.lookup a with
  | none => exact .inl (.inr ⟨_, by rw [argH_at ha hk e, hoOf_lst]⟩)
  | some o =>
    have e2 := KX a o hk
    rw [e] at e2
    obtain rfl := Option.some.inj e2
    exact .inr ⟨_, us.toArray, _, hk, rfl, rfl, rfl, by rw [List.size_toArray]; exact h1, by simpa using vals_toV h2⟩
theorem argT (KX : K.In h) (ar : ∀ a ∈ A, ArgOb h A a) {a : Addr} {vs : List Value} (ha : a ∈ A) (e : h.get? a = some { cls := .type "tuple", data := .seq vs.toArray }) : (∀ u ∈ vs, OkU A u) ∧ SqT K (argH K h A) a (vs.map toV) := by
  obtain ⟨us, h1, h2, h3⟩ := ar a ha
  have hu : us = vs := by
    rcases h3 with q | q
    · rw [e] at q
      exact absurd (Value.type.inj (seq_inj q).1) (by decide)
    · rw [e] at q
      exact (seq_inj q).2.symm
  subst hu
  refine ⟨h2, ?_⟩
  cases hk : K.lookup a with
  | none => exact .inl (.inr ⟨_, by rw [argH_at ha hk e, hoOf_tup]⟩)
  | some o =>
    have e2 := KX a o hk
    rw [e] at e2
    obtain rfl := Option.some.inj e2
    exact .inr ⟨_, us.toArray, _, hk, rfl, rfl, by rw [List.size_toArray]; exact h1, by simpa using vals_toV h2⟩
mutual
theorem dw_one {Pm : Params} (KX : K.In h) (ar : ∀ a ∈ A, ArgOb h A a) : ∀ (d : WData) (v : Value), Well Pm h v d → plW d = true → OkU A v → Dw K (argH K h A) (toV v) d
  | .none, _, x, _, _ => by
    cases x
    exact .non
  | .bool b, _, x, _, _ => by
    cases x
    exact .bl b
  | .int i, _, x, _, _ => by
    cases x
    exact .int i
  | .str s, _, x, _, _ => by
    cases x
    exact .str s
  | .bytes b, _, x, _, _ => by
    cases x
    have z := Dw.byt (K := K) (H := argH K h A) b.toArray
    exact z
  | .list ds, _, x, p, hu => by
    obtain ⟨a, vs, rfl, ho, hall⟩ := well_list x
    obtain ⟨h2, hs⟩ := argL KX ar hu ho
    exact .lst hs (dw_all KX ar ds _ hall p h2)
  | .tuple ds, _, x, p, hu => by
    obtain ⟨a, vs, rfl, ho, hall⟩ := well_tuple x
    obtain ⟨h2, hs⟩ := argT KX ar hu ho
    exact .tup hs (dw_all KX ar ds _ hall p h2)
  | .float _, _, _, p, _ => Bool.noConfusion (show false = true from p)
  | .dict _, _, _, p, _ => Bool.noConfusion (show false = true from p)
  | .bytearray _, _, _, p, _ => Bool.noConfusion (show false = true from p)
  | .set _, _, _, p, _ => Bool.noConfusion (show false = true from p)
  | .frozenset _, _, _, p, _ => Bool.noConfusion (show false = true from p)
  | .obj _ _, _, _, p, _ => Bool.noConfusion (show false = true from p)
theorem dw_all {Pm : Params} (KX : K.In h) (ar : ∀ a ∈ A, ArgOb h A a) : ∀ (ds : List WData) (vs : List Value), WellAll Pm h vs ds → plWs ds = true → (∀ u ∈ vs, OkU A u) → DwAll K (argH K h A) (vs.map toV) ds
  | [], _, x, _, _ => by
    cases x
    exact .nil
  | d :: ds, _, x, p, hu => by
    obtain ⟨v, vs, rfl, x1, x2⟩ := well_cons x
    have q : plW d = true ∧ plWs ds = true := Bool.and_eq_true_iff.mp p
    exact .cons (dw_one KX ar d v x1 q.1 (hu _ (List.mem_cons_self ..))) (dw_all KX ar ds vs x2 q.2 fun u m => hu u (List.mem_cons_of_mem _ m))
end
end
theorem spec_call {P : Program} {w : World} {K : PySem.W.Frag} {mg mb : Str → Option Value} {CX : CXT} {k : Nat} {fa : Addr} {fd : FuncData} {ps : List Str} {sp : Sp} {s₁ : Shared} {vals : List Value} {ds : List WData} {R : PySem.W.WRecords} {cl : Str → Option Addr} {d0 : WData}
    (KX : K.In s₁.heap) (hns : s₁.heap.Ns mainGlobals mg) (hb : s₁.heap.Ns builtinsNs mb) (hbb : ∀ x : Str, x ≠ "__name__" → mb x = bootBuiltins x) (hlim : s₁.heap.NoLimit) (hg : s₁.gens = #[])
    (hwl : WellAll w.params s₁.heap vals ds) (hpl : plWs ds = true) (hwt : ∀ d ∈ ds, d.weight ≤ 1048576) (hr : Room k callerA)
    (F : ∀ base : Heap, K.In base → base.Ns mainGlobals mg → FnOk P w K mg base CX k fa fd ps sp) (hbind : ∀ (s : Shared) (us : List Value), us.length = ps.length → BindsTo s fd ⟨us, []⟩ (ps.zip us)) (hlen : ds.length = ps.length)
    (hsp : ∀ (H : Hp) (xs : List V), OnlyF H → DwAll K H xs ds → sp xs H (fun v H' => Dw K H' v d0) fun _ _ _ => False)
    (hCX : ∀ H e s', CX [] H s₁ (fun _ _ _ => False) e s' → False) :
    codeAny (model P w) callerA (.call (.ref fa) ⟨vals, []⟩) (fun r s' => ∃ u as, r = .ok (.ret u) ∧ ReadsW R cl s'.heap u d0 as ∧ OldK s₁.heap s'.heap ∧ s'.os = s₁.os ∧ AllBare s'.gens) s₁ := by
  obtain ⟨A, ho, ar⟩ := area_all ds vals hwl hpl hwt
  have hO : OnlyF (argH K s₁.heap A) := argH_only ar
  have hok : HOk P w (argH K s₁.heap A) s₁.heap := argH_ok ar
  have hS := dw_all KX ar ds vals hwl hpl ho
  have hV := vals_toV ho
  have hK : ∀ b u, argH K s₁.heap A b = some u → K.lookup b = none := fun b u q => (argH_is ar q).1
  have noA : ∀ {b : Addr} {o : Obj} {es : Array DictEntry} {ep : Nat}, s₁.heap.get? b = some o → o.data = .dict es ep → argH K s₁.heap A b = none := fun {b o es ep} e d => by
    cases q : argH K s₁.heap A b with
    | none => rfl
    | some u =>
      obtain ⟨_, vs, _, _, ⟨e2, _⟩ | ⟨e2, _⟩⟩ := argH_is ar q
      · rw [e2] at e
        cases e
        have d' : Data.seq vs.toArray _ = Data.dict es ep := d
        cases d'
      · rw [e2] at e
        cases e
        have d' : Data.seq vs.toArray _ = Data.dict es ep := d
        cases d'
  generalize argH K s₁.heap A = H at hO hok hS hK noA
  have base_of : ∀ {b : Addr} {o : Obj}, s₁.heap.get? b = some o → H b = none → (hidT s₁.heap H).get? b = some o := fun e n => hidT_get e n
  have nsK : ∀ {b : Addr} {m : Str → Option Value}, s₁.heap.Ns b m → (hidT s₁.heap H).Ns b m := fun {b m} ⟨o, es, ep, e, d, r⟩ => ⟨o, es, ep, base_of e (noA e d), d, r⟩
  have nK : ∀ b o, K.lookup b = some o → H b = none := fun b o e => by
    cases q : H b with
    | none => rfl
    | some u =>
      rw [hK b u q] at e
      cases e
  have hKb : K.In (hidT s₁.heap H) := fun b o e => base_of (KX b o e) (nK b o e)
  have hM : Mod K mg (hidT s₁.heap H) := ⟨hKb, nsK hns, ⟨mb, nsK hb, hbb⟩, let ⟨mc, h1, h2⟩ := hlim; ⟨mc, nsK h1, h2⟩⟩
  have e0 : Env0 P w K mg (hidT s₁.heap H) callerA [] s₁ H := ⟨rfl, hM, fun b o e => of_hidT e, Nat.le_of_eq (hidT_size _ _), trivial, fun b hb => absurd (show b ∈ ([] : List Addr) from hb) (by simp), hok, .of_eq hg⟩
  have hl : vals.length = ps.length := by rw [wellAll_len hwl]; exact hlen
  refine codeAny_mono ((F _ hKb (nsK hns)).run callerA [] s₁ H ⟨vals, []⟩ vals (vals.map toV) _ _ hr e0 (hbind s₁ vals hl) hV (hsp H _ hO hS)) fun r s' x => ?_
  cases r with
  | error e => exact (hCX H e s' x).elim
  | ok fl =>
    cases fl with
    | next => exact False.elim x
    | brk => exact False.elim x
    | cont => exact False.elim x
    | ret u =>
      obtain ⟨v, H', os, bare, un, hok', r', q⟩ := x
      have kept : ∀ b o, s₁.heap.get? b = some o → s'.heap.get? b = some o := fun b o e => by
        cases q2 : H b with
        | none => exact un.keep b o e q2 (by intro z; exact absurd (show b ∈ ([] : List Addr) from z) (by simp)) (by simp)
        | some u2 =>
          rcases hO b with z | ⟨ob, u3, z⟩
          · rw [q2] at z
            cases z
          · have z2 := un.frzs b ob _ z
            obtain ⟨e1, _⟩ := hok b _ z
            obtain ⟨e2, _⟩ := hok' b _ z2
            rw [e] at e1
            cases e1
            exact e2
      have KX' : K.In s'.heap := fun b o e => kept b o (KX b o e)
      obtain ⟨as, hrd⟩ := Dw.reads (R := R) (cl := cl) hok' KX' d0 v u q r'
      exact ⟨u, as, rfl, hrd, OldK.of_keep kept, os, bare⟩
theorem layable_weight {ds : List WData} (h : WData.layableAll ds = true) : ∀ d ∈ ds, d.weight ≤ 1048576 := fun d hd =>
  (PySem.W.layableW_iff.mp (List.all_eq_true.mp h d hd)).2.2
theorem encAll_len : ∀ (cs : List Codec) (a : Codec.denoteAll cs), (Codec.encAll cs a).length = cs.length
  | [], _ => rfl
  | c :: cs, a => by
    show (Codec.encAll cs a.2).length + 1 = cs.length + 1
    rw [encAll_len cs a.2]
theorem walk_spec {r : OpenSpec} {k : Nat} {q : Program} {loose : List Str} {XP : (Str → Option Value) → Heap → Prop} {YP : World → Heap → Prop} {d : DefRec} {K : Params → PySem.W.Frag} {CX : World → CXT} {ps : List Str} {sp : World → Sp}
    (hwell : r.wellSaid = true) (hdf : d.params.defaults = []) (hlen : r.args.length = ps.length) (hr : Room k callerA)
    (hY : ∀ (w : World) (h : Heap), YP w h → (K w.params).In h)
    (F : ∀ (w : World) (mg : Str → Option Value) (fa : Addr) (h : Heap), YP w h → (K w.params).In h → h.Ns mainGlobals mg → mg d.name = some (.ref fa) →
      ∃ fd : FuncData, (∀ (s : Shared) (us : List Value), us.length = ps.length → BindsTo s fd ⟨us, []⟩ (ps.zip us)) ∧
        ∀ base : Heap, (K w.params).In base → base.Ns mainGlobals mg → FnOk r.prog w (K w.params) mg base (CX w) k fa fd ps (sp w))
    (hsp : ∀ (w : World) (H : Hp) (xs : List V) (a : Codec.denoteAll r.args), OnlyF H → Codec.withinAll r.args a = true → Codec.app r.args r.asked a = true → DwAll (K w.params) H xs (Codec.encAll r.args a) →
      sp w xs H (fun v H' => Dw (K w.params) H' v (r.ret.enc (Codec.app r.args r.f a))) fun _ _ _ => False)
    (hCX : ∀ (w : World) (H : Hp) (s : Shared) (e : Value) (s' : Shared), CX w [] H s (fun _ _ _ => False) e s' → False) :
    PySem.W.WalkOS q loose XP YP r d [] (fun f vs => PySem.call f vs) := by
  intro w s_0 s₁ mg mb G Y fa o pm cd doc dV kV ho hd hcd hD hmg hg args vals as hpre hlay hrd hwl hlo
  obtain ⟨a, e1, e2⟩ := PySem.W.os_pre_some hpre
  obtain ⟨e3, hwi⟩ := Codec.encAll_of_decAll r.args args a e1
  subst e3
  have KX := hY w _ Y
  obtain ⟨fd, hb, hF⟩ := F w mg fa _ Y KX G.T.g hmg
  refine PySem.W.enter_call (codeAny_mono (spec_call (R := []) (cl := classAt s_0.heap) (d0 := r.ret.enc (Codec.app r.args r.f a)) KX G.T.g G.T.b G.T.builtins G.T.nolimit hg hwl (pl_encAll _ _) (layable_weight hlay) hr hF hb (by rw [encAll_len]; exact hlen)
    (fun H xs hO hS => hsp w H xs a hO hwi e2 hS) fun H e s' => hCX w H s₁ e s') fun r' s' hq => ?_)
  obtain ⟨u, as', rfl, h1, h2, h3, h4⟩ := hq
  exact ⟨.inl ⟨u, _, as', rfl, fun _ => rfl, h1, (OpenSpec.post_iff hwell hwi _ _).mpr rfl, fun z => Bool.noConfusion (show false = true from z)⟩, h2, h3, h4⟩
theorem walk_specK {r : OpenSpec} {k : Nat} {q : Program} {loose : List Str} {XP : (Str → Option Value) → Heap → Prop} {YP : World → Heap → Prop} {d : DefRec} {K : Params → PySem.W.Frag} {CX : CXT} {ps : List Str} {sp : PySem.W.Frag → Sp}
    (hwell : r.wellSaid = true) (hdf : d.params.defaults = []) (hlen : r.args.length = ps.length) (hr : Room k callerA)
    (hY : ∀ (w : World) (h : Heap), YP w h → (K w.params).In h)
    (F : ∀ (w : World) (mg : Str → Option Value) (fa : Addr) (h : Heap), YP w h → (K w.params).In h → h.Ns mainGlobals mg → mg d.name = some (.ref fa) →
      ∃ fd : FuncData, (∀ (s : Shared) (us : List Value), us.length = ps.length → BindsTo s fd ⟨us, []⟩ (ps.zip us)) ∧
        ∀ base : Heap, (K w.params).In base → base.Ns mainGlobals mg → FnOk r.prog w (K w.params) mg base CX k fa fd ps (sp (K w.params)))
    (hsp : ∀ (K : PySem.W.Frag) (H : Hp) (xs : List V) (a : Codec.denoteAll r.args), OnlyF H → Codec.withinAll r.args a = true → Codec.app r.args r.asked a = true → DwAll K H xs (Codec.encAll r.args a) →
      sp K xs H (fun v H' => Dw K H' v (r.ret.enc (Codec.app r.args r.f a))) fun _ _ _ => False)
    (hCX : ∀ (H : Hp) (s : Shared) (e : Value) (s' : Shared), CX [] H s (fun _ _ _ => False) e s' → False) :
    PySem.W.WalkOS q loose XP YP r d [] (fun f vs => PySem.call f vs) :=
  walk_spec (K := K) (CX := fun _ => CX) (sp := fun w => sp (K w.params)) hwell hdf hlen hr hY F (fun w H xs a h1 h2 h3 h4 => hsp (K w.params) H xs a h1 h2 h3 h4) fun _ H s e s' => hCX H s e s'
end L2
end
namespace L2
open PySem PySem.Spec PyProof.Rows
section
variable {X : Cx}
theorem get_list : PGet X (rIxL X.K) := by
  intro pins s σ H o i ov iv Q I ro ri h
  obtain ⟨p, xs, k, z, rfl, rfl, hq, he, q⟩ := h
  cases ro
  obtain ⟨t, rfl⟩ := ri
  obtain ⟨its, r, pl, hz⟩ := I.list hq
  obtain ⟨j, h1, h2, h3, h4, h5⟩ := atI_get he
  obtain ⟨w, ew, rw'⟩ := r.get h2
  have hl := r.length
  have hn := line63
  have fin : EP X pins σ Q w s := ⟨z, H, I, rw', q⟩
  by_cases h0 : 0 ≤ k
  · have hj : k.toNat = j := by
      rw [seqIndex_of h0 h5] at h1
      exact Option.some.inj h1
    exact wpAny_getItem_list pl.isList h0 (by omega) (by rw [hj]; simpa using ew) fin
  · have hj : (k + (its.toArray.size : Int)).toNat = j := by
      rw [seqIndex_neg (by omega) h4] at h1
      rw [List.size_toArray, ← hl]
      exact Option.some.inj h1
    exact wpAny_getItem_list_neg pl.isList (by omega) (by rw [List.size_toArray] <;> omega) (by omega) (by rw [hj]; simpa using ew) fin
def CDivB (i j : Int) : Prop := 0 < j ∧ j < 2 ^ 9000
theorem op_fdivB : OpR X (binaryOp .FloorDiv) (rI CDivB fun i j => .int (i / j)) := opI fun i j _ _ _ _ _ hc q => by
  obtain ⟨h1, h2⟩ := hc
  refine floordiv_int (by omega) (by rw [Int.fdiv_eq_ediv_of_nonneg i (by omega)]; exact q) (.inl (PyProof.noPylong_of_log2 ?_))
  refine (Nat.log2_lt (by omega)).mpr ?_
  have e : ((j.natAbs : Nat) : Int) = j := Int.natAbs_of_nonneg (by omega)
  have e2 : ((j.natAbs : Nat) : Int) < ((2 ^ 9000 : Nat) : Int) := by
    rw [e, ← two_pow_cast]
    exact h2
  exact Int.ofNat_lt.mp e2
def FnIn (K : PySem.W.Frag) (mg : Str → Option Value) (x : Str) (st : Stmt) (ps : List Str) : Prop :=
  ∃ (f : Addr) (fd : FuncData), Fun K x x st f fd ∧ mg x = some (.ref f) ∧ Binds K fd ps []
def FnDo (P : Program) (w : World) (K : PySem.W.Frag) (mg : Str → Option Value) (base : Heap) (k : Nat) (x : Str) (st : Stmt) (ps : List Str) (sp : Sp) : Prop :=
  ∃ (f : Addr) (fd : FuncData), Fun K x x st f fd ∧ mg x = some (.ref f) ∧ Binds K fd ps [] ∧ FnOk P w K mg base CX0 k f fd ps sp
theorem FnIn.doIt {P : Program} {w : World} {K : PySem.W.Frag} {mg : Str → Option Value} {base : Heap} {x : Str} {st : Stmt} {N ps : List Str} {k : Nat} {sp : Sp} (F : FnIn K mg x st ps) (S : FnScope N ps (defScope st)) (len : ∀ vs H Q E, sp vs H Q E → vs.length = ps.length)
    (hbody : ∀ (f : Addr) (cdv : Value) (A : Around) (outer : List Env) (s : Shared) (H : Hp) (vs : List V) (Q : VK) (E : XK), Room k (A.deeper (envOfC x (defScope st) s.heap.objs.size f cdv)) → sp vs H Q E →
      ∃ t, PSs (cxOf CX0 P w K mg base N x (defScope st) f cdv A outer s H E).nox (defBody st) t ∧ t { nx := fun _ H' => Q .non H', rt := Q } (start N vs) H) : FnDo P w K mg base (k + 1) x st ps sp := by
  obtain ⟨f, fd, F1, m, b⟩ := F
  exact ⟨f, fd, F1, m, b, F1.ok S len (hbody f)⟩
theorem pe_callO {k : Nat} {x : Str} {st : Stmt} {ps : List Str} {sp : Sp} {p pos : Pos} {e : Expr} {es : List Expr} {t : TA} (F : FnDo X.prog X.w X.K X.mg X.base k x st ps sp) (hr : Room k X.A) (hg : Gl X x)
    (ha : PA X (e :: es) t) (hdb : (x == ("__debug__" : Str)) = false := by decide) (he : starEach (e :: es) X.env = (false, eval e X.env) :: starEach es X.env := by rfl) (hpl : (backTo pos (starEach es X.env)).any (·.1) = false := by rfl) :
    PE X (.Call (.Name x p) (e :: es) [] pos) (tCall sp [] E0 t) := by
  obtain ⟨f, fd, F1, m, b, G⟩ := F
  exact pe_call G hr hg m F1.kp b .nil pass0 ha hdb he hpl
def tCallV (X : Cx) (i : Nat) (t : TA) : TE := fun σ H Q => ∃ (f : Addr) (fd : FuncData) (ps : List Str) (sp : Sp) (k : Nat), σ[i]? = some (some (.ref f)) ∧ FnOk X.prog X.w X.K X.mg X.base CX0 k f fd ps sp ∧ Room k X.A ∧
  PySem.W.keepIn X.K (.ref f) = true ∧ Binds X.K fd ps [] ∧ t σ H fun vs H1 => sp vs H1 Q E0
theorem pe_callV (i : Nat) {x : Str} {p pos : Pos} {e : Expr} {es : List Expr} {t : TA} (ha : PA X (e :: es) t) (hN : X.N[i]? = some x := by rfl) (hv : Vis X.env.scope x := by first | exact Or.inl rfl | exact Or.inr (Or.inl rfl) | exact Or.inr (Or.inr rfl)) (hd : (x == ("__debug__" : Str)) = false := by decide)
    (hcd : (x == ("__classdict__" : Str)) = false := by decide) (he : starEach (e :: es) X.env = (false, eval e X.env) :: starEach es X.env := by rfl) (hpl : (backTo pos (starEach es X.env)).any (·.1) = false := by rfl) :
    PE X (.Call (.Name x p) (e :: es) [] pos) (tCallV X i t) := by
  intro pins s σ H Q I h
  obtain ⟨f, fd, ps, sp, k, hi, F, hr, hk, hb, q⟩ := h
  refine wpAny_Call_Name_kw (thn ((pe_var (pos := p) hN hv hd hcd) pins s σ H (fun v H' => v = .ref f ∧ H' = H) I ⟨_, hi, rfl, rfl⟩) fun u s0 ⟨v, H0, I0, rv, ev, eH⟩ => ?_)
  subst ev eH
  cases rv
  refine PySem.W.callWith_K (h₀ := X.base) I.ok.mod.kin hk (thn (ha pos pins s0 σ H0 _ I0 q) fun us s1 ⟨vs, H1, I1, r, q1⟩ => ⟨I1.kIn, ?_⟩) he hpl
  exact run_fn (dvs := []) F hr hb .nil pass0 I1 r (by rw [List.append_nil]; exact q1)
end
theorem for_enum {K : PySem.W.Frag} {a : Addr} {xs : List V} {g : TG} {tb : TS} {D : Ends} {σ : St} {H : Hp} (Pv : Nat → St → Hp → Prop) (h0 : Pv 0 σ H) (hl : ∀ i σ H, i ≤ xs.length → Pv i σ H → SqL K H a xs)
    (hs : ∀ i x T σ H, xs[i]? = some x → H T = none → Pv i σ H → g (.ref T) σ (upd H T (.tup [.int (i : Nat), x])) fun σ2 H2 => tb { D with nx := Pv (i + 1), ct := Pv (i + 1), bk := D.nx } σ2 H2) (hd : ∀ σ H, Pv xs.length σ H → D.nx σ H) :
    ∃ W : Nat → Nat → St → Hp → Prop, (∃ m, W 0 m σ H) ∧ ∀ i m σ H, W i m σ H →
      ((Ite K a).stop i H ∧ D.nx σ H) ∨ ((Ite K a).go i H ∧ ∃ N : St → Hp → Prop, (∀ σ' H', N σ' H' → ∃ m', m' < m ∧ W (i + 1) m' σ' H') ∧ ∀ x H', (Ite K a).yld i H x H' → g x σ H' fun σ2 H2 => tb { D with nx := N, ct := N, bk := D.nx } σ2 H2) := by
  refine ⟨fun i m σ H => m = xs.length - i ∧ i ≤ xs.length ∧ Pv i σ H, ⟨xs.length, by simp, Nat.zero_le _, h0⟩, ?_⟩
  rintro i m σ H ⟨rfl, hi, p⟩
  have q := hl i σ H hi p
  by_cases hlt : i < xs.length
  · refine .inr ⟨⟨xs, xs[i], q, by simp [hlt]⟩, Pv (i + 1), fun σ' H' p' => ⟨xs.length - (i + 1), by omega, rfl, hlt, p'⟩, fun x H' y => ?_⟩
    obtain ⟨T, x, rfl, hT, rfl, y⟩ := y
    exact hs i x T σ H (y xs q) hT p
  · have e : i = xs.length := by omega
    subst e
    exact .inl ⟨⟨xs, q, Nat.le_refl _⟩, hd σ H p⟩
theorem for_zip {K : PySem.W.Frag} {a b : Addr} {xs ys : List V} {g : TG} {tb : TS} {D : Ends} {σ : St} {H : Hp} (Pv : Nat → St → Hp → Prop) (h0 : Pv 0 σ H) (hl : ∀ i σ H, i ≤ min xs.length ys.length → Pv i σ H → SqL K H a xs ∧ SqL K H b ys)
    (hs : ∀ i x y T σ H, xs[i]? = some x → ys[i]? = some y → H T = none → Pv i σ H → g (.ref T) σ (upd H T (.tup [x, y])) fun σ2 H2 => tb { D with nx := Pv (i + 1), ct := Pv (i + 1), bk := D.nx } σ2 H2) (hd : ∀ σ H, Pv (min xs.length ys.length) σ H → D.nx σ H) :
    ∃ W : Nat → Nat → St → Hp → Prop, (∃ m, W 0 m σ H) ∧ ∀ i m σ H, W i m σ H →
      ((Itz K a b).stop i H ∧ D.nx σ H) ∨ ((Itz K a b).go i H ∧ ∃ N : St → Hp → Prop, (∀ σ' H', N σ' H' → ∃ m', m' < m ∧ W (i + 1) m' σ' H') ∧ ∀ x H', (Itz K a b).yld i H x H' → g x σ H' fun σ2 H2 => tb { D with nx := N, ct := N, bk := D.nx } σ2 H2) := by
  refine ⟨fun i m σ H => m = min xs.length ys.length - i ∧ i ≤ min xs.length ys.length ∧ Pv i σ H, ⟨min xs.length ys.length, by simp, Nat.zero_le _, h0⟩, ?_⟩
  rintro i m σ H ⟨rfl, hi, p⟩
  obtain ⟨q1, q2⟩ := hl i σ H hi p
  by_cases hlt : i < min xs.length ys.length
  · have l1 : i < xs.length := by omega
    have l2 : i < ys.length := by omega
    refine .inr ⟨⟨xs, ys, xs[i], ys[i], q1, q2, by simp [l1], by simp [l2]⟩, Pv (i + 1), fun σ' H' p' => ⟨min xs.length ys.length - (i + 1), by omega, rfl, hlt, p'⟩, fun x H' y => ?_⟩
    obtain ⟨T, x, z, rfl, hT, rfl, y1, y2⟩ := y
    exact hs i x z T σ H (y1 xs q1) (y2 ys q2) hT p
  · have e : i = min xs.length ys.length := by omega
    refine .inl ⟨⟨xs, ys, q1, q2, by omega⟩, hd σ H ?_⟩
    rw [← e]
    exact p
theorem lc_zip {K : PySem.W.Frag} {a b : Addr} {xs ys : List V} {g : TG} {tt : TT} {te : TE} {vs : List Nat} {σ : St} {H1 : Hp} {D : Addr} {Qd : Hp → Prop} (Pv : Nat → Hp → Prop) (h0 : Pv 0 (upd H1 D (.lst []))) (hl : ∀ i H, i ≤ min xs.length ys.length → Pv i H → SqL K H a xs ∧ SqL K H b ys)
    (hs : ∀ i x y T H, xs[i]? = some x → ys[i]? = some y → H T = none → Pv i H → g (.ref T) (wipe σ vs) (upd H T (.tup [x, y])) fun σ2 H2 => wipe σ2 vs = wipe σ vs ∧ tt σ2 H2 fun b H3 =>
      if b = true then te σ2 H3 fun y H4 => ∃ acc, H4 D = some (.lst acc) ∧ acc.length < sizeLine ∧ Pv (i + 1) (upd H4 D (.lst (acc ++ [y]))) else Pv (i + 1) H3) (hd : ∀ H, Pv (min xs.length ys.length) H → Qd H) :
    ∃ W : Nat → Nat → Hp → Prop, (∃ m, W 0 m (upd H1 D (.lst []))) ∧ ∀ i m H, W i m H →
      ((Itz K a b).stop i H ∧ Qd H) ∨ ((Itz K a b).go i H ∧ ∃ Nx : Hp → Prop, (∀ H', Nx H' → ∃ m', m' < m ∧ W (i + 1) m' H') ∧ ∀ x H', (Itz K a b).yld i H x H' → g x (wipe σ vs) H' fun σ2 H2 => wipe σ2 vs = wipe σ vs ∧ tt σ2 H2 fun b H3 =>
        if b = true then te σ2 H3 fun y H4 => ∃ acc, H4 D = some (.lst acc) ∧ acc.length < sizeLine ∧ Nx (upd H4 D (.lst (acc ++ [y]))) else Nx H3) := by
  refine ⟨fun i m H => m = min xs.length ys.length - i ∧ i ≤ min xs.length ys.length ∧ Pv i H, ⟨min xs.length ys.length, by simp, Nat.zero_le _, h0⟩, ?_⟩
  rintro i m H ⟨rfl, hi, p⟩
  obtain ⟨q1, q2⟩ := hl i H hi p
  by_cases hlt : i < min xs.length ys.length
  · have l1 : i < xs.length := by omega
    have l2 : i < ys.length := by omega
    refine .inr ⟨⟨xs, ys, xs[i], ys[i], q1, q2, by simp [l1], by simp [l2]⟩, Pv (i + 1), fun H' p' => ⟨min xs.length ys.length - (i + 1), by omega, rfl, hlt, p'⟩, fun x H' y => ?_⟩
    obtain ⟨T, x, z, rfl, hT, rfl, y1, y2⟩ := y
    exact hs i x z T H (y1 xs q1) (y2 ys q2) hT p
  · have e : i = min xs.length ys.length := by omega
    refine .inl ⟨⟨xs, ys, q1, q2, by omega⟩, hd H ?_⟩
    rw [← e]
    exact p
section
variable {X : Cx}
theorem pe_fldK (K : PySem.W.Frag) {e : Expr} {f : Str} {pos : Pos} {ta : TE} (hK : X.K = K) (he : PE X e ta) (hb : attributeBase e f X.env (eval e X.env) = eval e X.env) : PE X (.Attribute e f pos) (tFld K ta f) := by
  subst hK
  exact pe_fld he hb
theorem ix_listK (K : PySem.W.Frag) (hK : X.K = K) : IxR X (rIxL K) := by
  subst hK
  exact ix_list
theorem ix_tupK (K : PySem.W.Frag) (hK : X.K = K) : IxR X (rIxT K) := by
  subst hK
  exact ix_tup
theorem get_listK (K : PySem.W.Frag) (hK : X.K = K) : PGet X (rIxL K) := by
  subst hK
  exact get_list
theorem sl_listK (K : PySem.W.Frag) (hK : X.K = K) : SlR X (rSlL K) := by
  subst hK
  exact sl_list
def rLen (K : PySem.W.Frag) : List V → Hp → VK → Prop := fun xs H Q => ∃ p ys, xs = [.ref p] ∧ (SqL K H p ys ∨ SqT K H p ys) ∧ Q (.int ys.length) H
theorem call_lenK (K : PySem.W.Frag) (hK : X.K = K) : CallR X (.builtin "len") (rLen K) := by
  subst hK
  exact call_len_seq
theorem cr_sumK (K : PySem.W.Frag) (hK : X.K = K) (hc : X.calm = true) : CallR X (.builtin "sum") (rSum K) := by
  subst hK
  exact cr_sum hc
theorem cr_allK (K : PySem.W.Frag) (hK : X.K = K) (hc : X.calm = true) : CallR X (.builtin "all") (rAll K) := by
  subst hK
  exact cr_all hc
theorem cr_anyK (K : PySem.W.Frag) (hK : X.K = K) (hc : X.calm = true) : CallR X (.builtin "any") (rAny K) := by
  subst hK
  exact cr_any hc
theorem op_inK (K : PySem.W.Frag) (hK : X.K = K) : OpR X (compareOp .In) (rIn K false) := by
  subst hK
  exact op_in_seq
theorem pi_listK (K : PySem.W.Frag) {tg l : Expr} {tl : TE} (hK : X.K = K) (hl : PE X l tl) : PI X tg l (iList K tl) := by
  subst hK
  exact pi_list hl
theorem pi_enumK (K : PySem.W.Frag) {e : Expr} {ta : TA} {p pos tpos : Pos} {elts : List Expr} {kk : Nat} (hK : X.K = K) (hg : Gl X "enumerate") (hm : X.mg "enumerate" = none) (ha : PA X [e] ta) (hs : starEach [e] X.env = [(false, eval e X.env)] := by rfl) :
    PI X (.Tuple elts kk tpos) (.Call (.Name "enumerate" p) [e] [] pos) (iEnum K ta) := by
  subst hK
  exact pi_enum hg hm ha hs
theorem pi_zipK (K : PySem.W.Frag) {e e2 : Expr} {ta : TA} {p pos tpos : Pos} {elts : List Expr} {kk : Nat} (hK : X.K = K) (hg : Gl X "zip") (hm : X.mg "zip" = none) (ha : PA X [e, e2] ta)
    (hs : starEach [e, e2] X.env = (false, eval e X.env) :: starEach [e2] X.env := by rfl) (hpl : (backTo pos (starEach [e2] X.env)).any (·.1) = false := by rfl) :
    PI X (.Tuple elts kk tpos) (.Call (.Name "zip" p) [e, e2] [] pos) (iZip K ta) := by
  subst hK
  exact pi_zip hg hm ha hs hpl
theorem pg_tupK (K : PySem.W.Frag) {es : List Expr} {k : Nat} {t : TGs} {n : Nat} {pos : Pos} (hK : X.K = K) (hc : X.calm = true) (h : PGs X es t)
    (hn : (assignEach es X.env).length = n := by rfl) (hst : (assignEach es X.env).findIdx? (·.1) = none := by rfl) : PG X (.Tuple es k pos) (gTup K n t) := by
  subst hK
  exact pg_tup hc h hn hst
end
end L2
namespace Ks
open PySem PySem.Spec PyProof.Rows L2
theorem lri_len : typeLookup (.type "list_reverseiterator") "__len__" = pure none := by
  rw [typeLookup_type, builtinLookup_eq_fast]
  kernel_rfl
theorem lri_hint : typeLookup (.type "list_reverseiterator") "__length_hint__" = pure (some (.builtin "list_reverseiterator.__length_hint__")) := by
  rw [typeLookup_type, builtinLookup_eq_fast]
  kernel_rfl
theorem lri_split : splitId "list_reverseiterator.__length_hint__" = some ("list_reverseiterator", "__length_hint__") := by decide +kernel
theorem lri_sub : isSubtype (.type "list_reverseiterator") (.type "list_reverseiterator") = pure true := by
  rw [isSubtype_type]
  kernel_rfl
section
variable {prog : Program} {w : World} {A : Around} {R : Result → Shared → Prop} {s : Shared} {J : Addr} {fp wr : List Addr} {G : Array GenState → Array GenState → Prop} {n : Nat} {Pv : Nat → Value → Prop} {St : Nat → Shared → Prop}
theorem ext_rev (W : WalksS prog w A.in1 J fp wr G n Pv St) (hT : ∀ i s, St i s → s.TypeIs (.ref J) "list_reverseiterator") (S : Addr) (res : Value) (c0 : Nat) (hst : St 0 s) (hSf : S ∉ fp) (hJ : J ∈ fp)
    (hS : s.heap.get? S = some { cls := .type "list", data := .seq #[] c0 }) (hn : n ≤ sizeLine)
    (hR : ∀ s' acc c, Moved (S :: wr) G s s' → s'.heap.get? S = some { cls := .type "list", dict := none, data := .seq acc c, slots := #[] } → ItemsOf Pv acc n → R (.ok (.ret res)) s') :
    wpAny (model prog w) A.in1 (Builtin.List.listExtendWith (.ref S) (.ref J) res) (fun fin s' => match fin with
      | .done f => R (.ok f) s'
      | .again c' => c'.quiet = true ∧ codeAny (model prog w) A c' R s') (fun e s' => R (.error e) s') s := by
  have hSJ : S ≠ J := fun e => hSf (by rw [e]; exact hJ)
  have h0 : Builtin.List.listSameRef (.ref S) (.ref J) = false := by simp [Builtin.List.listSameRef, hSJ]
  unfold Builtin.List.listExtendWith
  refine wpAny_bind (wpAny_typeOf (hT 0 _ hst) ?_)
  rw [if_neg (show ¬ ((Builtin.List.listSameRef (.ref S) (.ref J) || Value.type "list_reverseiterator" == Value.type "list" || Value.type "list_reverseiterator" == Value.type "tuple") = true) by rw [h0]; decide)]
  refine wpAny_bind (W.self 0 _ _ _ hst ?_)
  refine wpAny_bind (wpAny_holding ?_)
  unfold Builtin.List.listLengthHint
  refine wpAny_bind (wpAny_specialOf (hT 0 _ hst) lri_len ?_)
  show wpAny (model prog w) A.in1 (specialOf (Value.ref J) (Str.ofString "__length_hint__") >>= _) _ _ _
  refine wpAny_bind (wpAny_specialOf (hT 0 _ hst) lri_hint ?_)
  (generalize hid : ("list_reverseiterator.__length_hint__" : String) = id0; (fail_if_success (clear hid id0)); wp_delta; rw [show splitId id0 = some ("list_reverseiterator", "__length_hint__") from by rw [← hid]; exact lri_split]; subst hid)
  refine wpAny_bind (wpAny_isInstance (b := true) (hT 0 _ hst) lri_sub ?_)
  refine wpAny_pure ?_
  rw [if_neg (by decide)]
  exact wpAny_pure ⟨plainId_quiet F.plain_extend_loop _, codeAny_extend_loopS W hn _ hSf _ n 0 _ _ _ rfl (Nat.zero_le _) hst hS (ItemsOf.nil Pv) fun s' acc c hm hS' hacc => hR s' acc c hm hS' hacc⟩
theorem init_rev (W : WalksS prog w A.in1 J fp wr G n Pv St) (hT : ∀ i s, St i s → s.TypeIs (.ref J) "list_reverseiterator") (S : Addr) (hst : St 0 s) (hSf : S ∉ fp) (hJ : J ∈ fp)
    (hS : s.heap.get? S = some { cls := .type "list", data := .seq #[] }) (hn : n ≤ sizeLine)
    (hR : ∀ s' acc c, Moved (S :: wr) G s s' → s'.heap.get? S = some { cls := .type "list", dict := none, data := .seq acc c, slots := #[] } → ItemsOf Pv acc n → R (.ok (.ret .none)) s') :
    wpAny (model prog w) A.in1 (Builtin.«list.__init__» ⟨[.ref S, .ref J], []⟩) (fun fin s' => match fin with
      | .done f => R (.ok f) s'
      | .again c' => c'.quiet = true ∧ codeAny (model prog w) A c' R s') (fun e s' => R (.error e) s') s := by
  show wpAny (model prog w) A.in1 (do let old ← Builtin.List.listItems (.ref S); Builtin.List.listUpdate (.ref S) (fun _ => #[]); letGo old.toList.reverse; Builtin.List.listExtendWith (.ref S) (.ref J) .none) _ _ s
  refine wpAny_bind ?_
  unfold Builtin.List.listItems
  refine wpAny_bind (wpAny_seqItems hS rfl (wpAny_pure ?_))
  show wpAny (model prog w) A.in1 (updateSeq S (fun _ => #[]) >>= fun _ => letGo (#[] : Array Value).toList.reverse >>= fun _ => Builtin.List.listExtendWith (.ref S) (.ref J) .none) _ _ s
  refine wpAny_bind (wpAny_updateSeq hS rfl ?_)
  have hS2 := Heap.get?_update_self (Obj.mapSeq (fun _ => (#[] : Array Value))) hS rfl
  have oth : ∀ b o, b ≠ S → s.heap.get? b = some o → (s.heap.update S (Obj.mapSeq (fun _ => (#[] : Array Value)))).get? b = some o := fun b o hb e => (Heap.get?_update_other _ _ (Ne.symm hb)).trans e
  refine wpAny_bind (wpAny_letGo ?_)
  refine ext_rev W hT S .none _ (W.frame 0 s _ s.toks hst (Nat.le_refl _) fun b hb o e => oth b o (fun h => hSf (by rw [← h]; exact hb)) e) hSf hJ hS2 hn fun s' acc c hm hS' hacc => ?_
  exact hR s' acc c (Moved.trans W.gtrans ((Moved.refl W.grefl).then_heap (Nat.le_refl _) fun b o hb e => oth b o (fun h => hb (by rw [h]; exact List.mem_cons_self ..)) e) hm) hS' hacc
end
section
variable {prog : Program} {w : World} {A : Around} {E : Value → Shared → Prop} {s : Shared} {J : Addr} {fp wr : List Addr} {G : Array GenState → Array GenState → Prop} {n : Nat} {Pv : Nat → Value → Prop} {St : Nat → Shared → Prop}
theorem call_rev {Q : Value → Shared → Prop} (W : WalksS prog w A.in1.in1 J fp wr G n Pv St) (hT : ∀ i s, St i s → s.TypeIs (.ref J) "list_reverseiterator") (hst : St 0 s) (hfp : ∀ b ∈ fp, b < s.heap.objs.size) (hJ : J ∈ fp) (hn : n ≤ sizeLine)
    (hQ : ∀ s' acc c, Moved (s.heap.objs.size :: wr) G { s with heap := s.heap.push { cls := .type "list", data := .seq #[] } } s' →
      s'.heap.get? s.heap.objs.size = some { cls := .type "list", dict := none, data := .seq acc c, slots := #[] } → ItemsOf Pv acc n → Q (.ref s.heap.objs.size) s') : wpAny (model prog w) A (call (.type "list") [.ref J]) Q E s := by
  have hSf : s.heap.objs.size ∉ fp := fun hm => Nat.lt_irrefl _ (hfp _ hm)
  refine callType_codes (Q₁ := fun obj s1 => obj = .ref s.heap.objs.size ∧ s1 = { s with heap := s.heap.push { cls := .type "list", data := .seq #[] } }) F.called_list (F.typeCall_list_1 _) F.entry_list_init (code_list_new _ ⟨rfl, rfl⟩) fun obj s1 h1 => ?_
  obtain ⟨rfl, rfl⟩ := h1
  have hS : (s.heap.push { cls := .type "list", data := .seq #[] }).get? s.heap.objs.size = some { cls := .type "list", data := .seq #[] } := Heap.get?_push_size _ rfl
  refine ⟨⟨_, hS, rfl⟩, F.args_list_init_2 _ _, init_rev W hT _ (W.frame 0 s _ s.toks hst (Nat.le_refl _) fun b _ o e => Heap.get?_push_of_some _ e) hSf hJ hS hn fun s' acc c hm hS' hacc => ?_⟩
  exact ⟨rfl, hQ s' acc c hm hS' hacc⟩
end
theorem vals_app : ∀ {xs ys : List V} {us vs : List Value}, Vals xs us → Vals ys vs → Vals (xs ++ ys) (us ++ vs)
  | _, _, _, _, .nil, h => h
  | _, _, _, _, .cons r t, h => .cons r (vals_app t h)
theorem vals_rev : ∀ {xs : List V} {us : List Value}, Vals xs us → Vals xs.reverse us.reverse
  | _, _, .nil => .nil
  | _, _, .cons r t => by
    rw [List.reverse_cons, List.reverse_cons]
    exact vals_app (vals_rev t) (.cons r .nil)
theorem rev_items {its : List Value} {acc : Array Value} (h : ItemsOf (fun i v => its.toArray[its.toArray.size - 1 - i]? = some v) acc its.toArray.size) : acc.toList = its.reverse := by
  obtain ⟨h1, h2⟩ := h
  have h1 : acc.size = its.length := by simpa using h1
  apply List.ext_getElem?
  intro j
  by_cases hj : j < its.length
  · have hja : j < acc.size := by omega
    have e1 : acc.toList[j]? = some acc[j] := by rw [Array.getElem?_toList]; exact Array.getElem?_eq_getElem hja
    have e2 := h2 j acc[j] (Array.getElem?_eq_getElem hja)
    rw [e1, List.getElem?_reverse hj]
    simpa using e2.symm
  · rw [List.getElem?_eq_none (by simp; omega), List.getElem?_eq_none (by simp; omega)]
section
variable {X : Cx}
theorem boot_list1 : bootBuiltins "list" = some (.type "list") := by decide +kernel
theorem boot_rev1 : bootBuiltins "reversed" = some (.type "reversed") := by decide +kernel
def tLRev (K : PySem.W.Frag) (ta : TA) : TE := fun σ H Q => ta σ H fun vs H1 => ∃ (a : Addr) (xs : List V), vs = [.ref a] ∧ SqL K H1 a xs ∧ ∀ l, H1 l = none → Q (.ref l) (upd H1 l (.lst xs.reverse))
theorem pe_listRev {e : Expr} {ta : TA} {p q pos pos2 : Pos} (hc : X.calm = true) (hg : Gl X "list") (hg2 : Gl X "reversed") (hm : X.mg "list" = none) (hm2 : X.mg "reversed" = none) (ha : PA X [e] ta)
    (hs : starEach [e] X.env = [(false, eval e X.env)] := by rfl)
    (hs2 : starEach [.Call (.Name "reversed" q) [e] [] pos2] X.env = [(false, eval (.Call (.Name "reversed" q) [e] [] pos2) X.env)] := by rfl) :
    PE X (.Call (.Name "list" p) [.Call (.Name "reversed" q) [e] [] pos2] [] pos) (tLRev X.K ta) := by
  intro pins s σ H Q I h
  refine wpAny_Call_Name_kw (ld_blt I hg hm boot_list1 ?_)
  refine PyProof.Rows.callWith_type1 ?_ hs2 rfl
  rw [hs2]
  show wpAny (model X.prog X.w) X.A (spliced ((false, eval (.Call (.Name "reversed" q) [e] [] pos2) X.env) :: [])) _ _ s
  refine Calls.spliced_cons ?_
  refine wpAny_Call_Name_kw (ld_blt I hg2 hm2 boot_rev1 ?_)
  refine PyProof.Rows.callWith_type1 (thn (ha pos2 pins s σ H _ I h) fun us s1 ⟨vs, H1, I1, r1, a, xs, e1, hq, q1⟩ => ?_) hs rfl
  subst e1
  rw [Vals.ref1 r1]
  obtain ⟨its, rv, pl, hz⟩ := I1.list hq
  have hlen := rv.length
  refine call_reversed_list pl.isList ?_
  refine Calls.spliced_nil ?_
  have hsz : a < s1.heap.objs.size := by
    obtain ⟨o, ho, _⟩ := pl.isList
    exact Heap.lt_size ho
  have hne : a ≠ s1.heap.objs.size := Nat.ne_of_lt hsz
  have hJ : (s1.heap.push (revObj a ((its.toArray.size : Int) - 1))).get? s1.heap.objs.size = some (revObj a ((its.toArray.size : Int) - 1)) := Heap.get?_push_size _ rfl
  have hJlt := Heap.lt_size hJ
  refine call_rev (Walks.listRev (A := X.A.in1.in1) (I1.ok.hd hc) s1.heap.objs.size a hne its.toArray).toS (fun i s2 st => st.2.1.typeIs) ⟨Nat.zero_le _, ⟨_, hJ, rfl, ?_⟩, ?_⟩ (fun b hb => ?_) (by simp) (by simp; omega) fun s2 acc c hm hS hacc => ?_
  · show Data.fields #[.ref a, rawInt ((its.toArray.size : Int) - 1)] = _
    congr 3
    simp
  · obtain ⟨o, ho, r⟩ := pl.isList
    exact ⟨o, Heap.get?_push_of_some _ ho, r⟩
  · simp at hb
    rcases hb with e1 | e1
    · rw [e1]; exact hJlt
    · rw [e1]; exact Nat.lt_trans hsz hJlt
  · have e2 := rev_items hacc
    have hk : ∀ b o, s1.heap.get? b = some o → s2.heap.get? b = some o := fun b o e => by
      have hb := Heap.lt_size e
      exact hm.heap b o (fun hmem => by
        rcases List.mem_cons.mp hmem with e1 | e1
        · exact Nat.ne_of_lt (Nat.lt_trans hb hJlt) e1
        · exact Nat.ne_of_lt hb (List.mem_singleton.mp e1)) (Heap.get?_push_of_some _ (Heap.get?_push_of_some _ e))
    have es : s2 = { s1 with heap := s2.heap, toks := s2.toks } := by
      obtain ⟨h1, h2, h3, h4, h5⟩ := hm
      cases s2
      simp only at h2 h3 h4
      subst h2 h3 h4
      rfl
    rw [es]
    refine ⟨.ref _, _, I1.laid (t' := s2.toks) hk (Nat.le_of_lt hJlt) (show ObjOk X.prog X.w _ s2.heap _ (.lst xs.reverse) from ⟨by rw [List.length_reverse]; exact hz, its.reverse, c, vals_rev rv, by rw [← e2]; exact hS⟩), rfl, q1 _ (I1.hok.fresh (Nat.le_of_lt hJlt))⟩
theorem pe_listRevK (K : PySem.W.Frag) {e : Expr} {ta : TA} {p q pos pos2 : Pos} (hK : X.K = K) (hc : X.calm = true) (hg : Gl X "list") (hg2 : Gl X "reversed") (hm : X.mg "list" = none) (hm2 : X.mg "reversed" = none) (ha : PA X [e] ta)
    (hs : starEach [e] X.env = [(false, eval e X.env)] := by rfl)
    (hs2 : starEach [.Call (.Name "reversed" q) [e] [] pos2] X.env = [(false, eval (.Call (.Name "reversed" q) [e] [] pos2) X.env)] := by rfl) :
    PE X (.Call (.Name "list" p) [.Call (.Name "reversed" q) [e] [] pos2] [] pos) (tLRev K ta) := by
  subst hK
  exact pe_listRev hc hg hg2 hm hm2 ha hs hs2
end
theorem lc_enum {K : PySem.W.Frag} {a : Addr} {xs : List V} {g : TG} {tt : TT} {te : TE} {vs : List Nat} {σ : L2.St} {H1 : Hp} {D : Addr} {Qd : Hp → Prop} (Pv : Nat → Hp → Prop) (h0 : Pv 0 (upd H1 D (.lst []))) (hl : ∀ i H, i ≤ xs.length → Pv i H → SqL K H a xs)
    (hs : ∀ i x T H, xs[i]? = some x → H T = none → Pv i H → g (.ref T) (wipe σ vs) (upd H T (.tup [.int (i : Nat), x])) fun σ2 H2 => wipe σ2 vs = wipe σ vs ∧ tt σ2 H2 fun b H3 =>
      if b = true then te σ2 H3 fun y H4 => ∃ acc, H4 D = some (.lst acc) ∧ acc.length < sizeLine ∧ Pv (i + 1) (upd H4 D (.lst (acc ++ [y]))) else Pv (i + 1) H3) (hd : ∀ H, Pv xs.length H → Qd H) :
    ∃ W : Nat → Nat → Hp → Prop, (∃ m, W 0 m (upd H1 D (.lst []))) ∧ ∀ i m H, W i m H →
      ((Ite K a).stop i H ∧ Qd H) ∨ ((Ite K a).go i H ∧ ∃ Nx : Hp → Prop, (∀ H', Nx H' → ∃ m', m' < m ∧ W (i + 1) m' H') ∧ ∀ x H', (Ite K a).yld i H x H' → g x (wipe σ vs) H' fun σ2 H2 => wipe σ2 vs = wipe σ vs ∧ tt σ2 H2 fun b H3 =>
        if b = true then te σ2 H3 fun y H4 => ∃ acc, H4 D = some (.lst acc) ∧ acc.length < sizeLine ∧ Nx (upd H4 D (.lst (acc ++ [y]))) else Nx H3) := by
  refine ⟨fun i m H => m = xs.length - i ∧ i ≤ xs.length ∧ Pv i H, ⟨xs.length, by simp, Nat.zero_le _, h0⟩, ?_⟩
  rintro i m H ⟨rfl, hi, p⟩
  have q := hl i H hi p
  by_cases hlt : i < xs.length
  · refine .inr ⟨⟨xs, xs[i], q, by simp [hlt]⟩, Pv (i + 1), fun H' p' => ⟨xs.length - (i + 1), by omega, rfl, hlt, p'⟩, fun x H' y => ?_⟩
    obtain ⟨T, x, rfl, hT, rfl, y⟩ := y
    exact hs i x T H (y xs q) hT p
  · have e : i = xs.length := by omega
    subst e
    exact .inl ⟨⟨xs, q, Nat.le_refl _⟩, hd H p⟩
end Ks
namespace L2
open PySem PySem.Spec PyProof.Rows
section
variable {P : Program} {w : World} {A : Around} {E : Value → Shared → Prop} {s : Shared}
theorem zlt_next {j t : Addr} {k : Nat} {ts : Array Value} {y : Value} {R : Value → Shared → Prop} (hj : s.heap.IsTupleIter j t k) (ht : s.heap.IsTuple t ts) (hy : ts[k]? = some y)
    (hR : ∀ g, g.IsTupleIter j t (k + 1) → Heap.SameBut j s.heap g → R y { s with heap := g }) : wpAny (model P w) A (Builtin.SmallTypes.nextOf (.ref j)) R E s := by
  obtain ⟨oj, ej, cj, dj⟩ := id hj
  obtain ⟨ot, et, _, nt, dt⟩ := ht
  unfold Builtin.SmallTypes.nextOf
  refine wpAny_bind (wpAny_callSpecial?_slot (name := Str.ofString "__next__") hj.typeIs F.slot_tuple_iterator_next (wpAny_call_entry F.slot_tuple_iterator_next hj.typeIs F.entry_tuple_iterator_next ?_ (F.args_tuple_iterator_next_1 _)))
  show wpAny _ _ (field (.ref j) 0 >>= _) _ _ s
  refine wpAny_bind (wpAny_field ej dj (x := .ref t) rfl ?_)
  have nn : ¬ ((Value.ref t == Value.none) = true) := Bool.false_ne_true
  show wpAny (model P w) _ (if (Value.ref t == Value.none) = true then _ else _) _ _ s
  rw [if_neg nn]
  show wpAny _ _ (field (.ref j) 1 >>= _) _ _ s
  refine wpAny_bind (wpAny_field ej dj (x := .int k 0) rfl ?_)
  refine wpAny_bind (wpAny_seqItems et dt ?_)
  simp only [hy, Int.toNat_natCast]
  refine wpAny_bind (wpAny_setField ej dj (by simp) (wpAny_pure ⟨y, rfl, wpAny_pure (hR _ ⟨_, Heap.get?_update_self _ ej (Obj.isFreed_of_fields (Obj.data_mapFields dj _)), (Obj.cls_mapFields ..).trans cj, ?_⟩ (Heap.SameBut.update ..))⟩))
  rw [Obj.data_mapFields dj]
  simp [rawInt]
theorem zlt_item0 {z TI TO i j l t : Addr} {m k : Nat} {xs ts : Array Value} {x y a b : Value} {R : Value → Shared → Prop} (D : ZipApart z TI TO i j l t) (hz : IsZip s.heap z TI TO .none) (hTI : IsPair s.heap TI (.ref i) (.ref j)) (hTO : IsPair s.heap TO a b)
    (hi : s.heap.IsListIter i l m) (hj : s.heap.IsTupleIter j t k) (hl : s.heap.IsList l xs) (ht : s.heap.IsTuple t ts) (hx : xs[m]? = some x) (hy : ts[k]? = some y)
    (hR : ∀ g, IsZip g z TI TO (rawInt s.heap.objs.size) → IsPair g TO x y → g.IsListIter i l (m + 1) → g.IsTupleIter j t (k + 1) → IsPair g s.heap.objs.size x y → g.objs.size = s.heap.objs.size + 1 →
      (∀ c o, c ≠ z → c ≠ TO → c ≠ i → c ≠ j → s.heap.get? c = some o → g.get? c = some o) → R (.ref s.heap.objs.size) { s with heap := g }) :
    wpAny (model P w) A (Builtin.«zip.__next__» ⟨[.ref z], []⟩) (fun fin s' => ∃ v, fin = .done (.ret v) ∧ R v s') E s := by
  show wpAny (model P w) A (field (.ref z) 2 >>= _) _ _ _
  refine wpAny_bind (wpAny_field hz rfl (x := Value.bool false) rfl ?_)
  show wpAny (model P w) A (field (.ref z) 3 >>= _) _ _ _
  refine wpAny_bind (wpAny_field hz rfl (x := Value.ref TI) rfl (wpAny_bind (wpAny_seqItems hTI rfl ?_)))
  show wpAny (model P w) A (Builtin.SmallTypes.ownedTupleIsFree (.ref z) >>= _) _ _ _
  refine wpAny_bind ?_
  unfold Builtin.SmallTypes.ownedTupleIsFree
  refine wpAny_bind (wpAny_field hz rfl (x := Value.none) rfl (wpAny_pure ?_))
  simp only [if_true]
  refine wpAny_bind (wpAny_rule (wpAny_bind (wpAny_field hz rfl (x := Value.ref TO) rfl (wpAny_bind (wpAny_setField_rec hz (by simp) fun g1 hz1 sb1 => ?_)))))
  replace hz1 : IsZip g1 z TI TO .ellipsis := hz1
  refine wpAny_bind ?_
  simp only [List.forIn_nil, List.forIn_cons, List.zipIdx_nil, List.zipIdx_cons]
  refine wpAny_bind (wpAny_bind (wpAny_onRaise ?_))
  show wpAny (model P w) A (Builtin.SmallTypes.nextOf (.ref i) >>= _) _ _ _
  refine wpAny_bind (wpAny_nextOf_list_item (hi.extBut sb1.extBut D.i1z) (hl.extBut sb1.extBut D.l1z) hx fun g2 hi2 sb2 => wpAny_pure ?_)
  have hTO2 : IsPair g2 TO a b := sb2.extBut _ _ D.TOi1 (sb1.extBut _ _ D.TOz hTO)
  refine wpAny_bind (wpAny_seqItems hTO2 rfl (wpAny_bind (wpAny_updateSeq_pair hTO2 fun g3 hTO3 sb3 => ?_)))
  replace hTO3 : IsPair g3 TO x b := hTO3
  refine wpAny_bind (wpAny_letGo (wpAny_pure (wpAny_bind (wpAny_bind (wpAny_onRaise ?_)))))
  show wpAny (model P w) A (Builtin.SmallTypes.nextOf (.ref j) >>= _) _ _ _
  have hj3 : g3.IsTupleIter j t k := ((hj.extBut sb1.extBut D.i2z).extBut sb2.extBut D.i12.symm).extBut sb3.extBut D.TOi2.symm
  have ht3 : g3.IsTuple t ts := ((ht.extBut sb1.extBut D.l2z).extBut sb2.extBut D.l2i1).extBut sb3.extBut D.l2TO
  refine wpAny_bind (zlt_next (s := { s with heap := g3 }) hj3 ht3 hy fun g4 hj4 sb4 => wpAny_pure ?_)
  have hTO4 : IsPair g4 TO x b := sb4.extBut _ _ D.TOi2 hTO3
  refine wpAny_bind (wpAny_seqItems hTO4 rfl (wpAny_bind (wpAny_updateSeq_pair hTO4 fun g5 hTO5 sb5 => ?_)))
  replace hTO5 : IsPair g5 TO x y := hTO5
  refine wpAny_bind (wpAny_letGo (wpAny_pure (wpAny_pure (wpAny_bind (wpAny_seqItems hTO5 rfl (wpAny_bind (wpAny_newTuple ?_)))))))
  have n5 : g5.objs.size = s.heap.objs.size := by rw [sb5.1, sb4.1, sb3.1, sb2.1, sb1.1]
  have hz5 : IsZip g5 z TI TO .ellipsis := sb5.extBut _ _ D.TOz.symm (sb4.extBut _ _ D.i2z.symm (sb3.extBut _ _ D.TOz.symm (sb2.extBut _ _ D.i1z.symm hz1)))
  have kp5 : ∀ c o, c ≠ z → c ≠ TO → c ≠ i → c ≠ j → s.heap.get? c = some o → g5.get? c = some o := fun c o d1 d2 d3 d4 e => sb5.extBut _ _ d2 (sb4.extBut _ _ d4 (sb3.extBut _ _ d2 (sb2.extBut _ _ d3 (sb1.extBut _ _ d1 e))))
  have hi5 : g5.IsListIter i l (m + 1) := ((hi2.extBut sb3.extBut D.TOi1.symm).extBut sb4.extBut D.i12).extBut sb5.extBut D.TOi1.symm
  have hj5 : g5.IsTupleIter j t (k + 1) := hj4.extBut sb5.extBut D.TOi2.symm
  have zlt : z < g5.objs.size := Heap.lt_size hz5
  show wpAny (model P w) A (Builtin.SmallTypes.ownedTupleHandOut (.ref z) (.ref g5.objs.size) >>= _) _ _ _
  refine wpAny_bind ?_
  unfold Builtin.SmallTypes.ownedTupleHandOut
  have hz6 : IsZip (g5.push { cls := .type "tuple", data := .seq #[x, y] }) z TI TO .ellipsis := Heap.get?_push_of_some _ hz5
  refine wpAny_bind (wpAny_setField_rec hz6 (by simp) fun g7 hz7 sb7 => ?_)
  replace hz7 : IsZip g7 z TI TO (rawInt g5.objs.size) := hz7
  refine wpAny_setField_rec hz7 (by simp) fun g8 hz8 sb8 => ?_
  replace hz8 : IsZip g8 z TI TO (rawInt g5.objs.size) := hz8
  have up8 : ∀ c o, c ≠ z → g5.get? c = some o → g8.get? c = some o := fun c o d1 e => sb8.extBut _ _ d1 (sb7.extBut _ _ d1 (Heap.get?_push_of_some _ e))
  have hT8 : IsPair g8 g5.objs.size x y := sb8.extBut _ _ (Nat.ne_of_gt zlt) (sb7.extBut _ _ (Nat.ne_of_gt zlt) (Heap.get?_push_size _ rfl))
  have n8 : g8.objs.size = g5.objs.size + 1 := by rw [sb8.1, sb7.1, Heap.size_push]
  rw [n5] at hz8 hT8 n8
  refine wpAny_pure ⟨_, rfl, ?_⟩
  show R (.ref g5.objs.size) _
  rw [n5]
  exact hR g8 hz8 (up8 _ _ D.TOz hTO5) (hi5.at fun o e => up8 _ o D.i1z e) (hj5.at fun o e => up8 _ o D.i2z e) hT8 n8 fun c o d1 d2 d3 d4 e => up8 c o d1 (kp5 c o d1 d2 d3 d4 e)
theorem zlt_end0 {z TI TO i j l : Addr} {m : Nat} {xs : Array Value} {R : Fin → Shared → Prop} (hh : A.handled = none) (d1 : i ≠ z) (d2 : l ≠ z) (hz : IsZip s.heap z TI TO .none) (hTI : IsPair s.heap TI (.ref i) (.ref j))
    (hi : s.heap.IsListIter i l m) (hl : s.heap.IsList l xs) (hx : xs[m]? = none)
    (hE : ∀ g e, (∀ c o, c ≠ z → c ≠ i → s.heap.get? c = some o → g.get? c = some o) → (∃ o, g.get? e = some o ∧ o.cls = .type "StopIteration") → E (.ref e) { s with heap := g }) :
    wpAny (model P w) A (Builtin.«zip.__next__» ⟨[.ref z], []⟩) R E s := by
  show wpAny (model P w) A (field (.ref z) 2 >>= _) _ _ _
  refine wpAny_bind (wpAny_field hz rfl (x := Value.bool false) rfl ?_)
  show wpAny (model P w) A (field (.ref z) 3 >>= _) _ _ _
  refine wpAny_bind (wpAny_field hz rfl (x := Value.ref TI) rfl (wpAny_bind (wpAny_seqItems hTI rfl ?_)))
  show wpAny (model P w) A (Builtin.SmallTypes.ownedTupleIsFree (.ref z) >>= _) _ _ _
  refine wpAny_bind ?_
  unfold Builtin.SmallTypes.ownedTupleIsFree
  refine wpAny_bind (wpAny_field hz rfl (x := Value.none) rfl (wpAny_pure ?_))
  simp only [if_true]
  refine wpAny_bind (wpAny_rule (wpAny_bind (wpAny_field hz rfl (x := Value.ref TO) rfl (wpAny_bind (wpAny_setField_rec hz (by simp) fun g1 hz1 sb1 => ?_)))))
  replace hz1 : IsZip g1 z TI TO .ellipsis := hz1
  refine wpAny_bind ?_
  simp only [List.forIn_nil, List.forIn_cons, List.zipIdx_nil, List.zipIdx_cons]
  refine wpAny_bind (wpAny_bind (wpAny_onRaise ?_))
  show wpAny (model P w) A (Builtin.SmallTypes.nextOf (.ref i) >>= _) _ _ _
  refine wpAny_bind (wpAny_nextOf_list_end hh (hi.extBut sb1.extBut d1) (hl.extBut sb1.extBut d2) hx fun g2 e sb2 he => ?_)
  obtain ⟨oe, hoe, hce⟩ := he
  have hz2 : IsZip g2 z TI TO .ellipsis := sb2 _ _ d1.symm hz1
  have ez : e ≠ z := fun q => by subst q; rw [hz2] at hoe; cases hoe; simp at hce
  exact wpAny_setField_rec hz2 (by simp) fun g3 _ sb3 => hE g3 e (fun c o c1 c3 q => sb3.extBut _ _ c1 (sb2 _ _ c3 (sb1.extBut _ _ c1 q))) ⟨oe, sb3.extBut _ _ ez hoe, hce⟩
theorem zlt_item {z TI TO i j l t : Addr} {m k : Nat} {xs ts : Array Value} {x y a b : Value} {R : Option Value → Shared → Prop} (D : ZipApart z TI TO i j l t) (hz : IsZip s.heap z TI TO .none) (hTI : IsPair s.heap TI (.ref i) (.ref j)) (hTO : IsPair s.heap TO a b)
    (hi : s.heap.IsListIter i l m) (hj : s.heap.IsTupleIter j t k) (hl : s.heap.IsList l xs) (ht : s.heap.IsTuple t ts) (hx : xs[m]? = some x) (hy : ts[k]? = some y)
    (hR : ∀ g, IsZip g z TI TO (rawInt s.heap.objs.size) → IsPair g TO x y → g.IsListIter i l (m + 1) → g.IsTupleIter j t (k + 1) → IsPair g s.heap.objs.size x y → g.objs.size = s.heap.objs.size + 1 →
      (∀ c o, c ≠ z → c ≠ TO → c ≠ i → c ≠ j → s.heap.get? c = some o → g.get? c = some o) → R (some (.ref s.heap.objs.size)) { s with heap := g }) : wpAny (model P w) A (pyNext (.ref z)) R E s := by
  have tz : s.TypeIs (.ref z) "zip" := ⟨_, hz, rfl⟩
  unfold pyNext
  exact wpAny_bind (wpAny_attempt (wpAny_callSpecial?_slot (name := Str.ofString "__next__") tz F.slot_zip_next (wpAny_call_entry F.slot_zip_next tz F.entry_zip_next
    (zlt_item0 D hz hTI hTO hi hj hl ht hx hy fun g b1 b2 b3 b4 b5 b6 b7 => wpAny_pure (hR g b1 b2 b3 b4 b5 b6 b7)) (F.args_zip_next_1 _))))
theorem zlt_end {z TI TO i j l : Addr} {m : Nat} {xs : Array Value} {R : Option Value → Shared → Prop} (hh : A.handled = none) (d1 : i ≠ z) (d2 : l ≠ z) (hz : IsZip s.heap z TI TO .none) (hTI : IsPair s.heap TI (.ref i) (.ref j))
    (hi : s.heap.IsListIter i l m) (hl : s.heap.IsList l xs) (hx : xs[m]? = none) (hR : ∀ g, (∀ c o, c ≠ z → c ≠ i → s.heap.get? c = some o → g.get? c = some o) → R none { s with heap := g }) : wpAny (model P w) A (pyNext (.ref z)) R E s := by
  have tz : s.TypeIs (.ref z) "zip" := ⟨_, hz, rfl⟩
  unfold pyNext
  refine wpAny_bind (wpAny_attempt (wpAny_callSpecial?_slot (name := Str.ofString "__next__") tz F.slot_zip_next (wpAny_call_entry F.slot_zip_next tz F.entry_zip_next (zlt_end0 hh d1 d2 hz hTI hi hl hx fun g e kk he => ?_) (F.args_zip_next_1 _))))
  obtain ⟨o, ho, hc⟩ := he
  exact wpAny_bind (wpAny_isInstance (T := "StopIteration") (b := true) ⟨o, ho, hc⟩ isSubtype_stop (wpAny_pure (hR _ kk)))
end
abbrev zl1 (h : Heap) (l : Addr) : Heap := h.push { cls := .type "list_iterator", data := .fields #[.ref l, .int 0 0] }
abbrev zl2 (h : Heap) (l t : Addr) : Heap := (zl1 h l).push { cls := .type "tuple_iterator", data := .fields #[.ref t, .int 0 0] }
abbrev zl3 (h : Heap) (l t : Addr) : Heap := (zl2 h l t).push { cls := .type "tuple", data := .seq #[.ref h.objs.size, .ref (zl1 h l).objs.size] }
abbrev zl4 (h : Heap) (l t : Addr) : Heap := (zl3 h l t).push { cls := .type "tuple", data := .seq #[.none, .none] }
abbrev zl5 (h : Heap) (l t : Addr) : Heap := (zl4 h l t).push { cls := .type "zip", data := .fields #[.none, .bool false, .bool false, .ref (zl2 h l t).objs.size, .ref (zl3 h l t).objs.size] }
theorem zlt_new (l t : Addr) (xs ts : Array Value) : Meets (Builtin.«zip.__new__» ⟨[.type "zip", .ref l, .ref t], []⟩) (fun _ R s => s.heap.IsList l xs ∧ s.heap.IsTuple t ts ∧ R (.ok (.ret (.ref (zl4 s.heap l t).objs.size))) { s with heap := zl5 s.heap l t }) :=
  .of_wp fun prog w A R s h => by
    obtain ⟨hp, g, d, tk, os⟩ := s; obtain ⟨hl, ht, h⟩ := h
    have hsub := sub_zip
    have hL : Heap.IsList (Shared.heap ⟨hp, g, d, tk, os⟩) l xs := hl
    have hT : Heap.IsTuple (Shared.heap ⟨hp.push { cls := .type "list_iterator", data := .fields #[.ref l, .int 0 0] }, g, d, tk, os⟩) t ts := Heap.IsTuple.push ht _
    wp_walk using wpAny_pyIter_list hL, wpAny_pyIter_tuple hT
    exact ⟨_, rfl, h⟩
section
variable {P : Program} {w : World} {A : Around} {E : Value → Shared → Prop} {s : Shared}
theorem zlt_call {l t : Addr} {xs ts : Array Value} {R : Value → Shared → Prop} (hl : s.heap.IsList l xs) (ht : s.heap.IsTuple t ts)
    (h : ∀ g, IsZip g (s.heap.objs.size + 4) (s.heap.objs.size + 2) (s.heap.objs.size + 3) .none → IsPair g (s.heap.objs.size + 2) (.ref s.heap.objs.size) (.ref (s.heap.objs.size + 1)) → IsPair g (s.heap.objs.size + 3) .none .none → g.IsListIter s.heap.objs.size l 0 →
      g.IsTupleIter (s.heap.objs.size + 1) t 0 → (∀ c o, s.heap.get? c = some o → g.get? c = some o) → R (.ref (s.heap.objs.size + 4)) { s with heap := g }) : wpAny (model P w) A (call (.type "zip") [.ref l, .ref t]) R E s := by
  refine callType_new F.called_zip (by decide) (F.typeCall_zip_2 _ _) (F.newCall_zip_2 _ _) (fun obj => F.args_object_init_3 obj _ _) F.entry_zip_new (zlt_new l t xs ts) ⟨hl, ht, ?_⟩
  have n1 : (zl1 s.heap l).objs.size = s.heap.objs.size + 1 := Heap.size_push ..
  have n2 : (zl2 s.heap l t).objs.size = s.heap.objs.size + 2 := by rw [Heap.size_push, n1]
  have n3 : (zl3 s.heap l t).objs.size = s.heap.objs.size + 3 := by rw [Heap.size_push, n2]
  have n4 : (zl4 s.heap l t).objs.size = s.heap.objs.size + 4 := by rw [Heap.size_push, n3]
  have e5 : (zl5 s.heap l t).get? (zl4 s.heap l t).objs.size = some _ := Heap.get?_push_size _ rfl
  have e4 : (zl5 s.heap l t).get? (zl3 s.heap l t).objs.size = some _ := Heap.get?_push_of_some _ (Heap.get?_push_size _ rfl)
  have e3 : (zl5 s.heap l t).get? (zl2 s.heap l t).objs.size = some _ := Heap.get?_push_of_some _ (Heap.get?_push_of_some _ (Heap.get?_push_size _ rfl))
  have e2 : (zl5 s.heap l t).get? (zl1 s.heap l).objs.size = some _ := Heap.get?_push_of_some _ (Heap.get?_push_of_some _ (Heap.get?_push_of_some _ (Heap.get?_push_size _ rfl)))
  have e1 : (zl5 s.heap l t).get? s.heap.objs.size = some _ := Heap.get?_push_of_some _ (Heap.get?_push_of_some _ (Heap.get?_push_of_some _ (Heap.get?_push_of_some _ (Heap.get?_push_size _ rfl))))
  show _ ∧ _
  rw [n2, n3, n4] at e5
  rw [n1, n2] at e3
  rw [n3] at e4
  rw [n1] at e2
  rw [n4]
  exact ⟨⟨_, e5, rfl⟩, h _ e5 e3 e4 ⟨_, e1, rfl, rfl⟩ ⟨_, e2, rfl, rfl⟩ fun c o q => Heap.get?_push_of_some _ (Heap.get?_push_of_some _ (Heap.get?_push_of_some _ (Heap.get?_push_of_some _ (Heap.get?_push_of_some _ q))))⟩
end
def Itw (K : PySem.W.Frag) (a b : Addr) : It :=
  ⟨fun i H => ∃ (xs ys : List V) (x y : V), SqL K H a xs ∧ SqT K H b ys ∧ xs[i]? = some x ∧ ys[i]? = some y,
    fun i H v H' => ∃ T x y, v = .ref T ∧ H T = none ∧ H' = upd H T (.tup [x, y]) ∧ (∀ xs, SqL K H a xs → xs[i]? = some x) ∧ ∀ ys, SqT K H b ys → ys[i]? = some y,
    fun i H => ∃ xs : List V, SqL K H a xs ∧ xs.length ≤ i⟩
theorem turn_zlt {P : Program} {w : World} {K : PySem.W.Frag} {elts : List Expr} {kk : Nat} {tpos : Pos} {a b z TI TO i1 i2 : Addr} (D : ZipApart z TI TO i1 i2 a b) :
    Turn P w K (.Tuple elts kk tpos) (Itw K a b) [z, TI, TO, i1, i2] z (fun i h => IsZip h z TI TO .none ∧ IsPair h TI (.ref i1) (.ref i2) ∧ (∃ x y, IsPair h TO x y) ∧ h.IsListIter i1 a i ∧ h.IsTupleIter i2 b i) where
  mem := by simp
  obj := fun i h st c hc => by
    obtain ⟨hz, hTI, ⟨x, y, hTO⟩, ⟨o1, e1, _, d1⟩, ⟨o2, e2, _, d2⟩⟩ := st
    have e' : c = z ∨ c = TI ∨ c = TO ∨ c = i1 ∨ c = i2 := by simpa using hc
    rcases e' with q | q | q | q | q
    · rw [q]; exact ⟨_, hz, fun v q => nomatch q⟩
    · rw [q]; exact ⟨_, hTI, fun v q => nomatch q⟩
    · rw [q]; exact ⟨_, hTO, fun v q => nomatch q⟩
    · rw [q]; exact ⟨o1, e1, fun v q => by rw [d1] at q; cases q⟩
    · rw [q]; exact ⟨o2, e2, fun v q => by rw [d2] at q; cases q⟩
  keep := fun i h h' st k => by
    obtain ⟨hz, hTI, ⟨x, y, hTO⟩, h1, h2⟩ := st
    exact ⟨k z (by simp) _ hz, k TI (by simp) _ hTI, ⟨x, y, k TO (by simp) _ hTO⟩, h1.at fun o q => k i1 (by simp) o q, h2.at fun o q => k i2 (by simp) o q⟩
  item := by
    intro X hP hw hK hc i pins s σ H E I hf st hg
    subst hP hw hK
    obtain ⟨hz, hTI, ⟨x0, y0, hTO⟩, h1, h2⟩ := st
    obtain ⟨xs, ys, x, y, hqx, hqy, hx, hy⟩ := hg
    obtain ⟨its, rv, p, _⟩ := I.list hqx
    obtain ⟨its2, rv2, p2, _⟩ := I.tuple hqy
    obtain ⟨u, hu, ru⟩ := rv.get hx
    obtain ⟨u2, hu2, ru2⟩ := rv2.get hy
    have hzl : z < s.heap.objs.size := Heap.lt_size hz
    refine zlt_item D hz hTI hTO h1 h2 p.isList (show s.heap.IsTuple b its2.toArray from p2) (x := u) (y := u2) (by simpa using hu) (by simpa using hu2) fun h' z' TO' h1' h2' hT hsz hk => ?_
    refine ⟨_, rfl, wpAny_letOwnedTupleGo_zip (s := { s with heap := h' }) z' fun h'' z'' sb => ?_⟩
    have hT2 : h''.get? s.heap.objs.size = some { cls := .type "tuple", data := .seq #[u, u2] } := (sb.2 _ (Nat.ne_of_gt hzl)).trans hT
    have new : ObjOk X.prog X.w (upd H s.heap.objs.size (.tup [x, y])) h'' s.heap.objs.size (.tup [x, y]) :=
      ⟨by show 2 ≤ sizeLine; decide, [u, u2], .cons ru (.cons ru2 .nil), ⟨_, hT2, rfl, _, rfl⟩⟩
    have I1 : Inv X pins σ (upd H s.heap.objs.size (.tup [x, y])) { s with heap := h'' } :=
      I.turnedNew (t' := s.toks) (ch := [z, TI, TO, i1, i2]) (fun c o hb q => (sb.2 c (fun q' => hb (by simp [q']))).trans (hk c o (fun q' => hb (by simp [q'])) (fun q' => hb (by simp [q'])) (fun q' => hb (by simp [q'])) (fun q' => hb (by simp [q'])) q)) hf (Nat.le_refl _) new
    refine ⟨.ref s.heap.objs.size, _, I1, rfl, ⟨_, x, y, rfl, I.hok.fresh (Nat.le_refl _), rfl, fun l hl => by rw [I.list_inj hl hqx]; exact hx, fun l hl => by rw [I.tuple_inj hl hqy]; exact hy⟩, ⟨z'', ?_, ⟨u, u2, ?_⟩, ?_, ?_⟩, fun c hcm => ?_⟩
    · exact (sb.2 _ D.TIz).trans (hk _ _ D.TIz D.TITO D.TIi1 D.TIi2 hTI)
    · exact (sb.2 _ D.TOz).trans TO'
    · exact h1'.at fun o q => (sb.2 _ D.i1z).trans q
    · exact h2'.at fun o q => (sb.2 _ D.i2z).trans q
    · have hlt : c < s.heap.objs.size := by
        have e' : c = z ∨ c = TI ∨ c = TO ∨ c = i1 ∨ c = i2 := by simpa using hcm
        rcases e' with q | q | q | q | q
        · rw [q]; exact hzl
        · rw [q]; exact Heap.lt_size hTI
        · rw [q]; exact Heap.lt_size hTO
        · rw [q]; obtain ⟨_, e1, _⟩ := h1; exact Heap.lt_size e1
        · rw [q]; obtain ⟨_, e2, _⟩ := h2; exact Heap.lt_size e2
      rw [upd_ne (Nat.ne_of_lt hlt)]
      exact (hf c hcm).1
  done := by
    intro X hP hw hK hc i pins s σ H E I hf st hg
    subst hP hw hK
    obtain ⟨hz, hTI, _, h1, h2⟩ := st
    obtain ⟨xs, hqx, hend⟩ := hg
    obtain ⟨its, rv, p, _⟩ := I.list hqx
    have l1 := rv.length
    have he : its.toArray[i]? = none := by simp; omega
    exact zlt_end (I.ok.hd hc) D.i1z D.l1z hz hTI h1 p.isList he fun h' hk => ⟨rfl, I.turnedL (t' := s.toks) (ch := [z, TI, TO, i1, i2]) (fun c o hb q =>
      hk c o (fun q' => hb (by simp [q'])) (fun q' => hb (by simp [q'])) q) hf⟩
  self := fun A i s Q E st h => wpAny_pyIter_zip st.1 h
def iZipLT (K : PySem.W.Frag) (ta : TA) : TI := fun σ H R => ta σ H fun vs H1 => ∃ a b xs ys, vs = [.ref a, .ref b] ∧ SqL K H1 a xs ∧ SqT K H1 b ys ∧ R (Itw K a b) H1
theorem pi_zipLTK (K : PySem.W.Frag) {X : Cx} {e e2 : Expr} {ta : TA} {p pos tpos : Pos} {elts : List Expr} {kk : Nat} (hK : X.K = K) (hg : Gl X "zip") (hm : X.mg "zip" = none) (ha : PA X [e, e2] ta)
    (hs : starEach [e, e2] X.env = (false, eval e X.env) :: starEach [e2] X.env := by rfl) (hpl : (backTo pos (starEach [e2] X.env)).any (·.1) = false := by rfl) :
    PI X (.Tuple elts kk tpos) (.Call (.Name "zip" p) [e, e2] [] pos) (iZipLT K ta) := by
  subst hK
  intro pins s σ H R I h
  refine Call_ (ld_blt I hg hm boot_zip5 (PyProof.Rows.callWith_type1 (thn (ha pos pins s σ H _ I h) fun us s1 ⟨vs, H1, I1, r1, q1⟩ => ?_) hs hpl))
  obtain ⟨a, b, xs, ys, ex, hqx, hqy, q⟩ := q1
  subst ex
  cases r1 with
  | cons r rr =>
    cases rr with
    | cons r' rr =>
      cases rr
      cases r
      cases r'
      obtain ⟨its, rv, p1, _⟩ := I1.list hqx
      obtain ⟨its2, rv2, p2, _⟩ := I1.tuple hqy
      have la : a < s1.heap.objs.size := p1.lt
      have lb : b < s1.heap.objs.size := p2.lt
      refine zlt_call p1.isList (show s1.heap.IsTuple b its2.toArray from p2) fun h' hz hTI hTO h1 h2 hk => wpAny_pyIter_zip hz ?_
      have I2 : Inv X pins σ H1 { s1 with heap := h' } := I1.kept (t' := s1.toks) hk
      refine ⟨s1.heap.objs.size + 4, [s1.heap.objs.size + 4, s1.heap.objs.size + 2, s1.heap.objs.size + 3, s1.heap.objs.size, s1.heap.objs.size + 1], _, _, H1, rfl, I2, turn_zlt (PySem.W.ktu_apart s1.heap.objs.size a b la lb), ⟨hz, hTI, ⟨_, _, hTO⟩, h1, h2⟩, fun c hcm => ?_, q⟩
      have e' : c = s1.heap.objs.size + 4 ∨ c = s1.heap.objs.size + 2 ∨ c = s1.heap.objs.size + 3 ∨ c = s1.heap.objs.size ∨ c = s1.heap.objs.size + 1 := by simpa using hcm
      have hle : s1.heap.objs.size ≤ c := by
        rcases e' with z | z | z | z | z
        · rw [z]; exact Nat.le_add_right _ _
        · rw [z]; exact Nat.le_add_right _ _
        · rw [z]; exact Nat.le_add_right _ _
        · rw [z]; exact Nat.le_refl _
        · rw [z]; exact Nat.le_add_right _ _
      exact I1.fpOk hle (I1.hok.fresh hle)
theorem for_zipLT {K : PySem.W.Frag} {a b : Addr} {xs ys : List V} {g : TG} {tb : TS} {D : Ends} {σ : St} {H : Hp} (hlen : xs.length ≤ ys.length) (Pv : Nat → St → Hp → Prop) (h0 : Pv 0 σ H) (hl : ∀ i σ H, i ≤ xs.length → Pv i σ H → SqL K H a xs ∧ SqT K H b ys)
    (hs : ∀ i x y T σ H, xs[i]? = some x → ys[i]? = some y → H T = none → Pv i σ H → g (.ref T) σ (upd H T (.tup [x, y])) fun σ2 H2 => tb { D with nx := Pv (i + 1), ct := Pv (i + 1), bk := D.nx } σ2 H2) (hd : ∀ σ H, Pv xs.length σ H → D.nx σ H) :
    ∃ W : Nat → Nat → St → Hp → Prop, (∃ m, W 0 m σ H) ∧ ∀ i m σ H, W i m σ H →
      ((Itw K a b).stop i H ∧ D.nx σ H) ∨ ((Itw K a b).go i H ∧ ∃ N : St → Hp → Prop, (∀ σ' H', N σ' H' → ∃ m', m' < m ∧ W (i + 1) m' σ' H') ∧ ∀ x H', (Itw K a b).yld i H x H' → g x σ H' fun σ2 H2 => tb { D with nx := N, ct := N, bk := D.nx } σ2 H2) := by
  refine ⟨fun i m σ H => m = xs.length - i ∧ i ≤ xs.length ∧ Pv i σ H, ⟨xs.length, by simp, Nat.zero_le _, h0⟩, ?_⟩
  rintro i m σ H ⟨rfl, hi, p⟩
  obtain ⟨q1, q2⟩ := hl i σ H hi p
  by_cases hlt : i < xs.length
  · have l2 : i < ys.length := by omega
    refine .inr ⟨⟨xs, ys, xs[i], ys[i], q1, q2, by simp [hlt], by simp [l2]⟩, Pv (i + 1), fun σ' H' p' => ⟨xs.length - (i + 1), by omega, rfl, hlt, p'⟩, fun x H' y => ?_⟩
    obtain ⟨T, x, z, rfl, hT, rfl, y1, y2⟩ := y
    exact hs i x z T σ H (y1 xs q1) (y2 ys q2) hT p
  · have e : i = xs.length := by omega
    refine .inl ⟨⟨xs, q1, by omega⟩, hd σ H ?_⟩
    rw [← e]
    exact p
end L2
namespace Ks
open PySem PySem.Spec PyProof.Rows L2
def top (i : Nat) : Stmt := PySem.Challenge.pw_keptseats_s01_answers.main.body.getD i (.Pass ⟨0, 0, 0, 0⟩)
abbrev s_init_Call : Stmt := inClass (top 2) 0
theorem sc_init_Call : FnScope ["self", "place", "numbers", "rows", "end"] ["self", "place", "numbers", "rows", "end"] (defScope s_init_Call) := ⟨rfl, rfl, rfl, by decide +kernel, rfl, by decide +kernel, by decide +kernel⟩
abbrev s_init_Worth : Stmt := inClass (top 6) 0
theorem sc_init_Worth : FnScope ["self", "above", "below"] ["self", "above", "below"] (defScope s_init_Worth) := ⟨rfl, rfl, rfl, by decide +kernel, rfl, by decide +kernel, by decide +kernel⟩
abbrev s_init_Plan : Stmt := inClass (top 26) 0
theorem sc_init_Plan : FnScope ["self"] ["self"] (defScope s_init_Plan) := ⟨rfl, rfl, rfl, by decide +kernel, rfl, by decide +kernel, by decide +kernel⟩
abbrev s_read_call : Stmt := top 3
theorem sc_read_call : FnScope ["calls", "start", "place", "form", "end", "numbers", "rows", "first"] ["calls", "start"] (defScope s_read_call) := ⟨rfl, rfl, rfl, by decide +kernel, rfl, by decide +kernel, by decide +kernel⟩
abbrev s_in_ranges : Stmt := top 4
theorem sc_in_ranges : FnScope ["call", "form", "number", "bounds", "row"] ["call"] (defScope s_in_ranges) := ⟨rfl, rfl, rfl, by decide +kernel, rfl, by decide +kernel, by decide +kernel⟩
abbrev s_no_worth : Stmt := top 7
theorem sc_no_worth : FnScope ["seats"] ["seats"] (defScope s_no_worth) := ⟨rfl, rfl, rfl, by decide +kernel, rfl, by decide +kernel, by decide +kernel⟩
abbrev s_common_divisor : Stmt := top 8
theorem sc_common_divisor : FnScope ["a", "b", "rest"] ["a", "b"] (defScope s_common_divisor) := ⟨rfl, rfl, rfl, by decide +kernel, rfl, by decide +kernel, by decide +kernel⟩
abbrev s_lowest_terms : Stmt := top 9
theorem sc_lowest_terms : FnScope ["above", "below", "shared"] ["above", "below"] (defScope s_lowest_terms) := ⟨rfl, rfl, rfl, by decide +kernel, rfl, by decide +kernel, by decide +kernel⟩
abbrev s_sold_of : Stmt := top 10
theorem sc_sold_of : FnScope ["asked", "left", "kept"] ["asked", "left", "kept"] (defScope s_sold_of) := ⟨rfl, rfl, rfl, by decide +kernel, rfl, by decide +kernel, by decide +kernel⟩
abbrev s_best_sum : Stmt := top 11
theorem sc_best_sum : FnScope ["gain", "weights", "later", "x", "best", "total", "d", "weight"] ["gain", "weights", "later", "x"] (defScope s_best_sum) := ⟨rfl, rfl, rfl, by decide +kernel, rfl, by decide +kernel, by decide +kernel⟩
abbrev s_kept_sum : Stmt := top 12
theorem sc_kept_sum : FnScope ["gain", "weights", "later", "x", "kept", "total", "d", "weight", "sold"] ["gain", "weights", "later", "x", "kept"] (defScope s_kept_sum) := ⟨rfl, rfl, rfl, by decide +kernel, rfl, by decide +kernel, by decide +kernel⟩
abbrev s_best_worths : Stmt := top 13
theorem sc_best_worths : FnScope ["fares", "weights", "seats", "worths", "later", "fare", "chances", "gain", "above", "x"] ["fares", "weights", "seats"] (defScope s_best_worths) := ⟨rfl, rfl, rfl, by decide +kernel, rfl, by decide +kernel, by decide +kernel⟩
abbrev s_kept_worth : Stmt := top 14
theorem sc_kept_worth : FnScope ["fares", "weights", "seats", "kept", "later", "i", "fare", "gain", "above", "x"] ["fares", "weights", "seats", "kept"] (defScope s_kept_worth) := ⟨rfl, rfl, rfl, by decide +kernel, rfl, by decide +kernel, by decide +kernel⟩
abbrev s_protection : Stmt := top 15
theorem sc_protection : FnScope ["worth", "fare", "kept", "y"] ["worth", "fare"] (defScope s_protection) := ⟨rfl, rfl, rfl, by decide +kernel, rfl, by decide +kernel, by decide +kernel⟩
abbrev s_best_kept : Stmt := top 16
theorem sc_best_kept : FnScope ["fares", "weights", "seats", "worths", "worth", "fare"] ["fares", "weights", "seats"] (defScope s_best_kept) := ⟨rfl, rfl, rfl, by decide +kernel, rfl, by decide +kernel, by decide +kernel⟩
abbrev s_period_sum : Stmt := top 18
theorem sc_period_sum : FnScope ["gains", "weights", "later", "x", "total", "gain", "weight"] ["gains", "weights", "later", "x"] (defScope s_period_sum) := ⟨rfl, rfl, rfl, by decide +kernel, rfl, by decide +kernel, by decide +kernel⟩
abbrev s_period_worth : Stmt := top 19
theorem sc_period_worth : FnScope ["fares", "weights", "later", "gains", "above", "fare", "x"] ["fares", "weights", "later"] (defScope s_period_worth) := ⟨rfl, rfl, rfl, by decide +kernel, rfl, by decide +kernel, by decide +kernel⟩
abbrev s_span_worths : Stmt := top 20
theorem sc_span_worths : FnScope ["fares", "periods", "seats", "worths", "weights"] ["fares", "periods", "seats"] (defScope s_span_worths) := ⟨rfl, rfl, rfl, by decide +kernel, rfl, by decide +kernel, by decide +kernel⟩
abbrev s_is_taken : Stmt := top 21
theorem sc_is_taken : FnScope ["fare", "later", "x"] ["fare", "later", "x"] (defScope s_is_taken) := ⟨rfl, rfl, rfl, by decide +kernel, rfl, by decide +kernel, by decide +kernel⟩
abbrev s_new : Stmt := top 27
theorem sc_new : FnScope ["plan", "numbers", "rows", "fares", "higher", "lower", "fare"] ["plan", "numbers", "rows"] (defScope s_new) := ⟨rfl, rfl, rfl, by decide +kernel, rfl, by decide +kernel, by decide +kernel⟩
abbrev s_demand : Stmt := top 28
theorem sc_demand : FnScope ["plan", "numbers", "rows"] ["plan", "numbers", "rows"] (defScope s_demand) := ⟨rfl, rfl, rfl, by decide +kernel, rfl, by decide +kernel, by decide +kernel⟩
abbrev s_observe : Stmt := top 29
theorem sc_observe : FnScope ["plan", "numbers", "rows", "weights", "d"] ["plan", "numbers", "rows"] (defScope s_observe) := ⟨rfl, rfl, rfl, by decide +kernel, rfl, by decide +kernel, by decide +kernel⟩
abbrev s_worth_to : Stmt := top 30
theorem sc_worth_to : FnScope ["plan", "i", "x", "worths"] ["plan", "i", "x"] (defScope s_worth_to) := ⟨rfl, rfl, rfl, by decide +kernel, rfl, by decide +kernel, by decide +kernel⟩
abbrev s_value : Stmt := top 31
theorem sc_value : FnScope ["plan", "numbers", "rows", "x", "worth"] ["plan", "numbers", "rows"] (defScope s_value) := ⟨rfl, rfl, rfl, by decide +kernel, rfl, by decide +kernel, by decide +kernel⟩
abbrev s_marginal : Stmt := top 32
theorem sc_marginal : FnScope ["plan", "numbers", "rows", "x", "worth"] ["plan", "numbers", "rows"] (defScope s_marginal) := ⟨rfl, rfl, rfl, by decide +kernel, rfl, by decide +kernel, by decide +kernel⟩
abbrev s_protections : Stmt := top 33
theorem sc_protections : FnScope ["plan", "numbers", "rows"] ["plan", "numbers", "rows"] (defScope s_protections) := ⟨rfl, rfl, rfl, by decide +kernel, rfl, by decide +kernel, by decide +kernel⟩
abbrev s_kept_from : Stmt := top 34
theorem sc_kept_from : FnScope ["kept"] ["kept"] (defScope s_kept_from) := ⟨rfl, rfl, rfl, by decide +kernel, rfl, by decide +kernel, by decide +kernel⟩
abbrev s_decide : Stmt := top 35
theorem sc_decide : FnScope ["plan", "numbers", "rows", "i", "x", "kept"] ["plan", "numbers", "rows"] (defScope s_decide) := ⟨rfl, rfl, rfl, by decide +kernel, rfl, by decide +kernel, by decide +kernel⟩
abbrev s_with_revenue : Stmt := top 36
theorem sc_with_revenue : FnScope ["plan", "sold", "revenue", "number", "fare"] ["plan", "sold"] (defScope s_with_revenue) := ⟨rfl, rfl, rfl, by decide +kernel, rfl, by decide +kernel, by decide +kernel⟩
abbrev s_play : Stmt := top 37
theorem sc_play : FnScope ["plan", "numbers", "rows", "requested", "classes", "kept", "left", "sold", "i"] ["plan", "numbers", "rows"] (defScope s_play) := ⟨rfl, rfl, rfl, by decide +kernel, rfl, by decide +kernel, by decide +kernel⟩
abbrev s_mean : Stmt := top 38
theorem sc_mean : FnScope ["plan", "numbers", "rows", "worth"] ["plan", "numbers", "rows"] (defScope s_mean) := ⟨rfl, rfl, rfl, by decide +kernel, rfl, by decide +kernel, by decide +kernel⟩
abbrev s_known : Stmt := top 39
theorem sc_known : FnScope ["plan", "numbers", "rows", "left", "sold", "requested", "part"] ["plan", "numbers", "rows"] (defScope s_known) := ⟨rfl, rfl, rfl, by decide +kernel, rfl, by decide +kernel, by decide +kernel⟩
abbrev s_meanknown : Stmt := top 40
theorem sc_meanknown : FnScope ["plan", "numbers", "rows", "fares", "weights", "worth"] ["plan", "numbers", "rows"] (defScope s_meanknown) := ⟨rfl, rfl, rfl, by decide +kernel, rfl, by decide +kernel, by decide +kernel⟩
abbrev s_chance : Stmt := top 41
theorem sc_chance : FnScope ["plan", "numbers", "rows", "weights"] ["plan", "numbers", "rows"] (defScope s_chance) := ⟨rfl, rfl, rfl, by decide +kernel, rfl, by decide +kernel, by decide +kernel⟩
abbrev s_asked : Stmt := top 42
theorem sc_asked : FnScope ["plan", "numbers", "rows", "weights", "seats", "d", "weight"] ["plan", "numbers", "rows"] (defScope s_asked) := ⟨rfl, rfl, rfl, by decide +kernel, rfl, by decide +kernel, by decide +kernel⟩
abbrev s_period : Stmt := top 43
theorem sc_period : FnScope ["plan", "numbers", "rows", "weights"] ["plan", "numbers", "rows"] (defScope s_period) := ⟨rfl, rfl, rfl, by decide +kernel, rfl, by decide +kernel, by decide +kernel⟩
abbrev s_span_refused : Stmt := top 44
theorem sc_span_refused : FnScope ["plan", "t", "x"] ["plan", "t", "x"] (defScope s_span_refused) := ⟨rfl, rfl, rfl, by decide +kernel, rfl, by decide +kernel, by decide +kernel⟩
abbrev s_span_worth : Stmt := top 45
theorem sc_span_worth : FnScope ["plan", "t", "x"] ["plan", "t", "x"] (defScope s_span_worth) := ⟨rfl, rfl, rfl, by decide +kernel, rfl, by decide +kernel, by decide +kernel⟩
abbrev s_spanvalue : Stmt := top 46
theorem sc_spanvalue : FnScope ["plan", "numbers", "rows", "t", "x", "refusal", "worth"] ["plan", "numbers", "rows"] (defScope s_spanvalue) := ⟨rfl, rfl, rfl, by decide +kernel, rfl, by decide +kernel, by decide +kernel⟩
abbrev s_accept : Stmt := top 47
theorem sc_accept : FnScope ["plan", "numbers", "rows", "t", "x", "refusal", "later", "fare"] ["plan", "numbers", "rows"] (defScope s_accept) := ⟨rfl, rfl, rfl, by decide +kernel, rfl, by decide +kernel, by decide +kernel⟩
abbrev s_requests : Stmt := top 48
theorem sc_requests : FnScope ["plan", "numbers", "rows", "left", "classes", "to_go", "worths", "sold", "revenue", "request"] ["plan", "numbers", "rows"] (defScope s_requests) := ⟨rfl, rfl, rfl, by decide +kernel, rfl, by decide +kernel, by decide +kernel⟩
abbrev s_clear : Stmt := top 49
theorem sc_clear : FnScope ["plan", "numbers", "rows"] ["plan", "numbers", "rows"] (defScope s_clear) := ⟨rfl, rfl, rfl, by decide +kernel, rfl, by decide +kernel, by decide +kernel⟩
abbrev s_shown : Stmt := top 50
theorem sc_shown : FnScope ["plan", "numbers", "rows"] ["plan", "numbers", "rows"] (defScope s_shown) := ⟨rfl, rfl, rfl, by decide +kernel, rfl, by decide +kernel, by decide +kernel⟩
abbrev s_refused : Stmt := top 52
theorem sc_refused : FnScope ["plan", "call"] ["plan", "call"] (defScope s_refused) := ⟨rfl, rfl, rfl, by decide +kernel, rfl, by decide +kernel, by decide +kernel⟩
abbrev s_answer : Stmt := top 53
theorem sc_answer : FnScope ["plan", "call", "refusal", "handler"] ["plan", "call"] (defScope s_answer) := ⟨rfl, rfl, rfl, by decide +kernel, rfl, by decide +kernel, by decide +kernel⟩
abbrev s_answers : Stmt := top 54
theorem sc_answers : FnScope ["calls", "plan", "answered", "start", "call", "numbers"] ["calls"] (defScope s_answers) := ⟨rfl, rfl, rfl, by decide +kernel, rfl, by decide +kernel, by decide +kernel⟩
def ClIn (K : PySem.W.Frag) (mg : Str → Option Value) (x q : Str) (st : Stmt) (ps : List Str) (C : Addr) : Prop :=
  ∃ (f : Addr) (fd : FuncData), Fun K "__init__" q st f fd ∧ Mk K C f ∧ mg x = some (.ref C) ∧ Binds K fd ps []
def ClDo (P : Program) (w : World) (K : PySem.W.Frag) (mg : Str → Option Value) (base : Heap) (k : Nat) (x : Str) (ps : List Str) (C : Addr) (sp : Sp) : Prop :=
  ∃ (f : Addr) (fd : FuncData), Mk K C f ∧ mg x = some (.ref C) ∧ Binds K fd ps [] ∧ FnOk P w K mg base CX0 k f fd ps sp
theorem ClIn.doIt {P : Program} {w : World} {K : PySem.W.Frag} {mg : Str → Option Value} {base : Heap} {x q : Str} {st : Stmt} {N ps : List Str} {C : Addr} {k : Nat} {sp : Sp} (F : ClIn K mg x q st ps C) (S : FnScope N ps (defScope st)) (len : ∀ vs H Q E, sp vs H Q E → vs.length = ps.length)
    (hbody : ∀ (f : Addr) (cdv : Value) (A : Around) (outer : List Env) (s : Shared) (H : Hp) (vs : List V) (Q : VK) (E : XK), Room k (A.deeper (envOfC q (defScope st) s.heap.objs.size f cdv)) → sp vs H Q E →
      ∃ t, PSs (cxOf CX0 P w K mg base N q (defScope st) f cdv A outer s H E).nox (defBody st) t ∧ t { nx := fun _ H' => Q .non H', rt := Q } (start N vs) H) : ClDo P w K mg base (k + 1) x ps C sp := by
  obtain ⟨f, fd, F1, M, m, b⟩ := F
  exact ⟨f, fd, M, m, b, F1.ok S len (hbody f)⟩
section
variable {X : Cx} {k : Nat} {x : Str} {ps : List Str} {C : Addr} {sp : Sp} {p pos : Pos} {e : Expr} {es : List Expr} {t : TA}
theorem pe_makeO (M : ClDo X.prog X.w X.K X.mg X.base k x ps C sp) (hr : Room (k + 1) X.A) (hg : Gl X x) (ha : PA X (e :: es) t) (hdb : (x == ("__debug__" : Str)) = false := by decide)
    (he : starEach (e :: es) X.env = (false, eval e X.env) :: starEach es X.env := by rfl) (hpl : (backTo pos (starEach es X.env)).any (·.1) = false := by rfl) : PE X (.Call (.Name x p) (e :: es) [] pos) (tMake C sp [] E0 t) := by
  obtain ⟨f, fd, M, m, b, G⟩ := M
  exact pe_make M G hr hg m b .nil pass0 ha hdb he hpl
theorem pe_makeO0 (M : ClDo X.prog X.w X.K X.mg X.base k x ps C sp) (hr : Room (k + 1) X.A) (hg : Gl X x) (hdb : (x == ("__debug__" : Str)) = false := by decide) : PE X (.Call (.Name x p) [] [] pos) (tMake C sp [] E0 tNil) := by
  obtain ⟨f, fd, M, m, b, G⟩ := M
  exact pe_make0 M G hr hg m b .nil pass0 hdb
end
structure Txt (K : PySem.W.Frag) (mg : Str → Option Value) (CW CC CP : Addr) : Prop where
  no_len : mg "len" = none
  no_min : mg "min" = none
  no_max : mg "max" = none
  no_sum : mg "sum" = none
  no_all : mg "all" = none
  no_any : mg "any" = none
  no_list : mg "list" = none
  no_reversed : mg "reversed" = none
  no_range : mg "range" = none
  no_zip : mg "zip" = none
  no_enumerate : mg "enumerate" = none
  cW : Cls K CW
  cC : Cls K CC
  cP : Cls K CP
  w_above : NoAttr K CW "above"
  w_below : NoAttr K CW "below"
  p_seats : NoAttr K CP "seats"
  p_fares : NoAttr K CP "fares"
  p_weights : NoAttr K CP "weights"
  p_periods : NoAttr K CP "periods"
  c_place : NoAttr K CC "place"
  c_numbers : NoAttr K CC "numbers"
  c_rows : NoAttr K CC "rows"
  c_end : NoAttr K CC "end"
abbrev nv (n : Nat) : V := .int (n : Int)
def NL (l : List Nat) : List V := l.map nv
theorem NL_len (l : List Nat) : (NL l).length = l.length := List.length_map ..
theorem NL_get {l : List Nat} {i : Nat} {x : V} (h : (NL l)[i]? = some x) : ∃ n, l[i]? = some n ∧ x = nv n := by
  unfold NL at h
  rw [List.getElem?_map] at h
  cases e : l[i]? with
  | none => rw [e] at h; cases h
  | some n => rw [e] at h; exact ⟨n, rfl, (Option.some.inj h).symm⟩
theorem NL_at {l : List Nat} {i : Nat} {n : Nat} (h : l[i]? = some n) : atI (NL l) (i : Int) = some (nv n) := by
  refine atI_nat ?_
  unfold NL
  rw [List.getElem?_map, h]
  rfl
theorem NL_getD {l : List Nat} {i : Nat} (h : i < l.length) : atI (NL l) (i : Int) = some (nv (l.getD i 0)) := by
  refine NL_at ?_
  rw [List.getD_eq_getElem?_getD, List.getElem?_eq_getElem h]
  rfl
theorem len_putF (f : Str) (v : V) : ∀ fs : List (Str × V), (putF f v fs).length ≤ fs.length + 1
  | [] => by simp [putF]
  | (g, x) :: r => by
    have ih := len_putF f v r
    unfold putF
    split
    · simp
    · simp; exact ih
theorem max_cast (a b : Nat) : (if (b : Int) > (a : Int) then (b : Int) else (a : Int)) = ((max a b : Nat) : Int) := by
  split <;> omega
theorem min_cast (a b : Nat) : (if (b : Int) < (a : Int) then (b : Int) else (a : Int)) = ((min a b : Nat) : Int) := by
  split <;> omega
theorem take_snoc {α : Type} {l : List α} {i : Nat} {x : α} (h : l[i]? = some x) : l.take (i + 1) = l.take i ++ [x] := by
  rw [List.take_add_one, h]
  rfl
def WAt (CW : Addr) (H : Hp) (a la : Addr) (q : Nat) : Prop :=
  ∃ dx fs, H a = some (.ins CW dx fs) ∧ fs.lookup ("above" : Str) = some (.ref la) ∧ fs.lookup ("below" : Str) = some (nv q)
def WorthAt (CW : Addr) (H : Hp) (a : Addr) (t : Nat × List Nat) : Prop := ∃ la, WAt CW H a la t.1 ∧ H la = some (.lst (NL t.2))
theorem WorthAt.same {CW : Addr} {H H' : Hp} {a : Addr} {t : Nat × List Nat} (w : WorthAt CW H a t) (s : Same H H') : WorthAt CW H' a t := by
  obtain ⟨la, ⟨dx, fs, h1, h2, h3⟩, h4⟩ := w
  exact ⟨la, ⟨dx, fs, s _ _ h1, h2, h3⟩, s _ _ h4⟩
theorem Same.upd_new {H : Hp} {p : Addr} {o : HO} (h : H p = Option.none) : Same H (upd H p o) := fun b u e => by
  rw [upd_ne (ne_of_none e h)]
  exact e
def spInitW (CW : Addr) : Sp := fun vs H Q _ => ∃ (p dx la : Addr) (q : Nat), vs = [.ref p, .ref la, nv q] ∧ H p = some (.ins CW dx []) ∧
  ∀ H' : Hp, WAt CW H' p la q → (∀ b o, H b = some o → b ≠ p → H' b = some o) → Q .non H'
section
variable {P : Program} {w : World} {K : PySem.W.Frag} {mg : Str → Option Value} {base : Heap} {CW CC CP : Addr}
theorem ok_init_Worth (F : ClIn K mg "Worth" "Worth.__init__" s_init_Worth ["self", "above", "below"] CW) (T : Txt K mg CW CC CP) : ClDo P w K mg base 1 "Worth" ["self", "above", "below"] CW (spInitW CW) := by
  refine F.doIt sc_init_Worth (fun vs H Q E h => ?_) (fun f cdv A outer s H vs Q E hr h => ?_)
  · obtain ⟨p, dx, la, q, rfl, _⟩ := h
    rfl
  · obtain ⟨p, dx, la, q, rfl, hp, k⟩ := h
    refine ⟨_, (pss_cons (ps_fld (pv 0) (pv 1) rfl) (pss_one (ps_fld (pv 0) (pv 2) rfl))), ?_⟩
    refine ⟨_, rfl, _, rfl, p, CW, dx, [], rfl, hp, T.cW, T.w_above, (by show 0 < 1000; decide), ?_⟩
    refine ⟨_, rfl, _, rfl, p, CW, dx, _, rfl, upd_same, T.cW, T.w_below, (by show 1 < 1000; decide), ?_⟩
    refine k _ ⟨dx, _, upd_same, ?_, ?_⟩ fun b o e hb => by rw [upd_ne hb, upd_ne hb]; exact e
    · rw [lookup_putF, if_neg (by decide +kernel), lookup_putF, if_pos rfl]
    · rw [lookup_putF, if_pos rfl]
def spSold : Sp := fun vs H Q _ => ∃ (a l k : Nat), vs = [nv a, nv l, nv k] ∧ Q (nv (min a (l - k))) H
theorem ok_sold_of (F : FnIn K mg "sold_of" s_sold_of ["asked", "left", "kept"]) (T : Txt K mg CW CC CP) : FnDo P w K mg base 1 "sold_of" s_sold_of ["asked", "left", "kept"] spSold := by
  refine F.doIt sc_sold_of (fun vs H Q E h => ?_) (fun f cdv A outer s H vs Q E hr h => ?_)
  · obtain ⟨a, l, k, rfl, _⟩ := h
    rfl
  · obtain ⟨a, l, k, rfl, q⟩ := h
    refine ⟨_, (pss_one (ps_ret (pe_callB (call_min2 rfl) (by rfl) T.no_min boot_min (pa_cons (pv 0) (pa_cons (pe_callB (call_max2 rfl) (by rfl) T.no_max boot_max (pa_cons (pe_op op_sub (pv 1) (pv 2)) (pa_cons pe_int pa_nil))) pa_nil))))), ?_⟩
    refine ⟨_, rfl, _, rfl, _, rfl, _, _, rfl, rfl, _, _, rfl, _, _, rfl, ?_⟩
    have e : (if (if (0 : Int) > (l : Int) - (k : Int) then (0 : Int) else (l : Int) - (k : Int)) < (a : Int) then (if (0 : Int) > (l : Int) - (k : Int) then (0 : Int) else (l : Int) - (k : Int)) else (a : Int)) = ((min a (l - k) : Nat) : Int) := by
      split <;> split <;> omega
    rw [e]
    exact q
def spNoWorth (CW : Addr) : Sp := fun vs H Q _ => ∃ (n : Nat), vs = [nv n] ∧ n ≤ 60 ∧ ∀ (H' : Hp) (a : Addr), Same H H' → WorthAt CW H' a (1, List.replicate (n + 1) 0) → Q (.ref a) H'
theorem ok_no_worth (F : FnIn K mg "no_worth" s_no_worth ["seats"]) (T : Txt K mg CW CC CP) (GI_Worth : ClDo P w K mg base 1 "Worth" ["self", "above", "below"] CW (spInitW CW)) :
    FnDo P w K mg base 3 "no_worth" s_no_worth ["seats"] (spNoWorth CW) := by
  refine F.doIt sc_no_worth (fun vs H Q E h => ?_) (fun f cdv A outer s H vs Q E hr h => ?_)
  · obtain ⟨n, rfl, _⟩ := h
    rfl
  · obtain ⟨n, rfl, hn, k⟩ := h
    refine ⟨_, (pss_one (ps_ret (pe_makeO GI_Worth (hr.mono (by decide)) rfl (pa_cons (pe_op op_rep (pe_lst (pa_cons pe_int pa_nil)) (pe_op op_add (pv 0) pe_int)) (pa_cons pe_int pa_nil))))), ?_⟩
    refine ⟨(by show 1 ≤ sizeLine; decide), fun l hl => ?_⟩
    have e : ((n : Int) + 1).toNat = n + 1 := by omega
    refine ⟨_, rfl, _, _, rfl, rfl, l, _, _, rfl, rfl, upd_same, (by omega), (by omega), (by rw [e]; show 1 * (n + 1) ≤ 16777216; omega), fun p hp => ?_⟩
    intro x dx nx nd ne
    refine ⟨x, dx, p, 1, rfl, upd_same, fun H2 hW k2 => ⟨rfl, ?_⟩⟩
    have s1 : Same H (upd H l (.lst [.int 0])) := Same.upd_new hl
    have s2 : Same (upd H l (.lst [.int 0])) _ := Same.upd_new (o := .lst (List.replicate ((n : Int) + 1).toNat [V.int 0]).flatten) hp
    have s3 := Same.made nx nd k2
    refine k H2 x ((s1.trans s2).trans s3) ⟨p, hW, ?_⟩
    rw [s3 _ _ upd_same, e]
    unfold NL
    rw [List.map_replicate]
    congr 2
    induction (n + 1) with
    | zero => rfl
    | succ m ih => rw [List.replicate_succ, List.replicate_succ, List.flatten_cons, ih]; rfl
end
end Ks
namespace Ks
open PySem PySem.Spec PyProof.Rows L2
section
variable {P : Program} {w : World} {K : PySem.W.Frag} {mg : Str → Option Value} {base : Heap} {CW CC CP : Addr}
def spGcd : Sp := fun vs H Q _ => ∃ (a b : Nat), vs = [nv a, nv b] ∧ Q (nv (Nat.gcd a b)) H
theorem ok_common_divisor (F : FnIn K mg "common_divisor" s_common_divisor ["a", "b"]) (T : Txt K mg CW CC CP) : FnDo P w K mg base 1 "common_divisor" s_common_divisor ["a", "b"] spGcd := by
  refine F.doIt sc_common_divisor (fun vs H Q E h => ?_) (fun f cdv A outer s H vs Q E hr h => ?_)
  · obtain ⟨a, b, rfl, _⟩ := h
    rfl
  · obtain ⟨a, b, rfl, q⟩ := h
    refine ⟨_, (pss_cons (ps_while PassesOwn.never (pt_cmpR op_gt (pv 1) pe_int (nomark _)) (pss_cons (ps_set (i := 2) sc_common_divisor.nd rfl (by first | exact Or.inl rfl | exact Or.inr rfl) (pe_op op_mod (pv 0) (pv 1))) (pss_cons (ps_set (i := 0) sc_common_divisor.nd rfl (by first | exact Or.inl rfl | exact Or.inr rfl) (pv 1)) (pss_one (ps_set (i := 1) sc_common_divisor.nd rfl (by first | exact Or.inl rfl | exact Or.inr rfl) (pv 2)))))) (pss_one (ps_ret (pv 0)))), ?_⟩
    refine while_by (fun σ H' => H' = H ∧ ∃ (x y : Nat) (r : Option V), σ = [some (nv x), some (nv y), r] ∧ Nat.gcd x y = Nat.gcd a b) (fun σ _ => match σ with | [_, some (.int y), _] => y.toNat | _ => 0) ⟨rfl, a, b, none, rfl, rfl⟩ ?_ ?_
    · rintro σ H' ⟨rfl, x, y, r, rfl, hg⟩
      refine ⟨_, rfl, _, _, rfl, rfl, _, rfl, ?_⟩
      refine ite2 (fun hc => ?_) (fun hc => ?_)
      · have hy : 0 < y := by
          have := of_decide_eq_true hc
          omega
        refine ⟨_, rfl, _, rfl, _, _, rfl, rfl, (by show (0 : Int) < (y : Int); omega), _, rfl, _, rfl, ?_⟩
        refine ⟨⟨rfl, y, x % y, some (V.int ((x : Int) % (y : Int))), ?_, ?_⟩, ?_⟩
        · show [some (nv y), some (V.int ((x : Int) % (y : Int))), some (V.int ((x : Int) % (y : Int)))] = [some (nv y), some (nv (x % y)), some (V.int ((x : Int) % (y : Int)))]
          rw [← Int.natCast_emod]
        · rw [← hg, Nat.gcd_comm x y, Nat.gcd_rec y x, Nat.gcd_comm]
        · show ((x : Int) % (y : Int)).toNat < ((y : Int)).toNat
          rw [← Int.natCast_emod]
          have := Nat.mod_lt x hy
          omega
      · have hy : y = 0 := by
          have : ¬ (0 : Int) < (y : Int) := fun h => hc (decide_eq_true h)
          omega
        subst hy
        refine ⟨_, rfl, ?_⟩
        rw [Nat.gcd_zero_right] at hg
        show Q (nv x) H'
        rw [hg]
        exact q
    · intro σ H' Q1 Q2 hm h
      obtain ⟨v, h1, i, j, h2, h3, k, h4, h5⟩ := h
      exact ⟨v, h1, i, j, h2, h3, k, h4, hm _ _ h5⟩
def spLow : Sp := fun vs H Q _ => ∃ (a b : Nat), vs = [nv a, nv b] ∧ 0 < b ∧ (b : Int) < 2 ^ 9000 ∧ ∀ (H' : Hp) (p : Addr), Same H H' → H p = none → H' p = some (.lst (NL [a / Nat.gcd a b, b / Nat.gcd a b])) → Q (.ref p) H'
theorem ok_lowest_terms (F : FnIn K mg "lowest_terms" s_lowest_terms ["above", "below"]) (T : Txt K mg CW CC CP) (G_common_divisor : FnDo P w K mg base 1 "common_divisor" s_common_divisor ["a", "b"] spGcd) :
    FnDo P w K mg base 2 "lowest_terms" s_lowest_terms ["above", "below"] spLow := by
  refine F.doIt sc_lowest_terms (fun vs H Q E h => ?_) (fun f cdv A outer s H vs Q E hr h => ?_)
  · obtain ⟨a, b, rfl, _⟩ := h
    rfl
  · obtain ⟨a, b, rfl, hb, hB, q⟩ := h
    refine ⟨_, (pss_cons (ps_set (i := 2) sc_lowest_terms.nd rfl (by first | exact Or.inl rfl | exact Or.inr rfl) (pe_callO G_common_divisor (hr.mono (by decide)) rfl (pa_cons (pv 0) (pa_cons (pv 1) pa_nil)))) (pss_one (ps_ret (pe_lst (pa_cons (pe_op op_fdivB (pv 0) (pv 2)) (pa_cons (pe_op op_fdivB (pv 1) (pv 2)) pa_nil)))))), ?_⟩
    have hg : 0 < Nat.gcd a b := Nat.gcd_pos_of_pos_right a hb
    have hgb : Nat.gcd a b ≤ b := Nat.gcd_le_right a hb
    have c1 : CDivB (a : Int) ((Nat.gcd a b : Nat) : Int) := ⟨by omega, Int.lt_of_le_of_lt (Int.ofNat_le.mpr hgb) hB⟩
    have c2 : CDivB (b : Int) ((Nat.gcd a b : Nat) : Int) := ⟨by omega, Int.lt_of_le_of_lt (Int.ofNat_le.mpr hgb) hB⟩
    refine ⟨_, rfl, _, rfl, a, b, rfl, ?_⟩
    refine ⟨_, rfl, _, rfl, _, _, rfl, rfl, c1, _, rfl, _, rfl, _, _, rfl, rfl, c2, (by show 2 ≤ sizeLine; decide), fun p hp => ?_⟩
    refine q _ p (Same.upd_new hp) hp ?_
    rw [upd_same]
    all_goals rfl
def rb (g : Nat) (rest : List Nat) (x : Nat) : Nat → Nat
  | 0 => rest.getD x 0
  | i + 1 => if i ≤ x then max (rb g rest x i) (i * g + rest.getD (x - i) 0) else rb g rest x i
def bsum (g : Nat) (ws rest : List Nat) (x : Nat) : Nat := (ws.zipIdx.map fun p => p.1 * rb g rest x (p.2 + 1)).sum
theorem zipIdx_snoc {α : Type} (l : List α) (x : α) : (l ++ [x]).zipIdx = l.zipIdx ++ [(x, l.length)] := by
  rw [List.zipIdx_append]
  simp
theorem sum_snoc (l : List Nat) (x : Nat) : (l ++ [x]).sum = l.sum + x := by simp
theorem bsum_snoc (f : Nat → Nat) (l : List Nat) (x : Nat) : ((l ++ [x]).zipIdx.map fun p => p.1 * f p.2).sum = (l.zipIdx.map fun p => p.1 * f p.2).sum + x * f l.length := by
  rw [zipIdx_snoc, List.map_append, List.map_singleton, sum_snoc]
def spBest (K : PySem.W.Frag) : Sp := fun vs H Q _ => ∃ (g : Nat) (w l : Addr) (x : Nat) (ws rest : List Nat), vs = [nv g, .ref w, .ref l, nv x] ∧ SqL K H w (NL ws) ∧ SqL K H l (NL rest) ∧ x < rest.length ∧ ws.length ≤ 1000 ∧ (∀ z ∈ ws, z ≤ 1000) ∧
  ∀ H' : Hp, Same H H' → Q (nv (bsum g ws rest x)) H'
theorem mulS {a : Nat} {j : Int} (h : a ≤ 1000000) : CMul (a : Int) j := .inl ⟨by omega, by omega⟩
theorem at_sub {l : List Nat} {x i : Nat} (h : i ≤ x) (hx : x < l.length) : atI (NL l) ((x : Int) - (i : Int)) = some (nv (l.getD (x - i) 0)) := by
  have e1 : (x : Int) - (i : Int) = ((x - i : Nat) : Int) := by omega
  rw [e1]
  exact NL_getD (by omega)
theorem ok_best_sum (F : FnIn K mg "best_sum" s_best_sum ["gain", "weights", "later", "x"]) (T : Txt K mg CW CC CP) : FnDo P w K mg base 1 "best_sum" s_best_sum ["gain", "weights", "later", "x"] (spBest K) := by
  refine F.doIt sc_best_sum (fun vs H Q E h => ?_) (fun f cdv A outer s H vs Q E hr h => ?_)
  · obtain ⟨g, w, l, x, ws, rest, rfl, _⟩ := h
    rfl
  · obtain ⟨g, w, l, x, ws, rest, rfl, hw, hl, hx, hlen, hws, q⟩ := h
    refine ⟨_, (pss_cons (ps_set (i := 4) sc_best_sum.nd rfl (by first | exact Or.inl rfl | exact Or.inr rfl) (pe_ix (ix_listK K rfl) (pv 2) (pv 3) (fun _ _ => rfl))) (pss_cons (ps_set (i := 5) sc_best_sum.nd rfl (by first | exact Or.inl rfl | exact Or.inr rfl) pe_int) (pss_cons (ps_for PassesOwn.never rfl (pi_enumK K rfl rfl T.no_enumerate (pa_cons (pv 1) pa_nil)) (pg_tupK K (n := 2) rfl rfl (pgs_cons (pg_name (i := 6) sc_best_sum.nd rfl (by first | exact Or.inl rfl | exact Or.inr rfl)) (pgs_cons (pg_name (i := 7) sc_best_sum.nd rfl (by first | exact Or.inl rfl | exact Or.inr rfl)) pgs_nil))) (pss_cons (ps_if (pt_cmpR op_le (pv 6) (pv 3) (nomark _)) (pss_one (ps_set (i := 4) sc_best_sum.nd rfl (by first | exact Or.inl rfl | exact Or.inr rfl) (pe_callB (call_max2 rfl) (by rfl) T.no_max boot_max (pa_cons (pv 4) (pa_cons (pe_op op_add (pe_op op_mul (pv 6) (pv 0)) (pe_ix (ix_listK K rfl) (pv 2) (pe_op op_sub (pv 3) (pv 6)) (fun _ _ => rfl))) pa_nil))))) pss_nil) (pss_one (ps_aug (i := 5) sc_best_sum.nd rfl (by first | exact Or.inl rfl | exact Or.inr rfl) (pe_op op_mul (pv 7) (pv 4)) ip_add)))) (pss_one (ps_ret (pv 5)))))), ?_⟩
    refine ⟨_, rfl, _, rfl, l, _, _, _, rfl, rfl, hl, NL_getD hx, ?_⟩
    refine ⟨_, rfl, w, _, rfl, hw, for_enum (K := K) (a := w) (xs := NL ws) (fun i σ H' => ∃ (d z : Option V), σ = [some (nv g), some (.ref w), some (.ref l), some (nv x), some (nv (rb g rest x i)), some (nv ((ws.take i).zipIdx.map fun p => p.1 * rb g rest x (p.2 + 1)).sum), d, z] ∧ Same H H')
      ⟨none, none, rfl, Same.refl H⟩ (fun i σ H' _ ⟨_, _, _, s5⟩ => s5.seq hw) ?_ ?_⟩
    · rintro i y Tt σ H' hi hT ⟨d, z, rfl, s5⟩
      obtain ⟨n, hn, rfl⟩ := NL_get hi
      have hi' : i < ws.length := (List.getElem?_eq_some_iff.mp hn).1
      have hn' : n ≤ 1000 := hws n (List.mem_of_getElem? hn)
      have s6 : Same H (upd H' Tt (.tup [V.int (i : Nat), nv n])) := s5.trans (Same.upd_new hT)
      have el : (ws.take i).length = i := by rw [List.length_take]; omega
      have fin : ∀ b : Nat, b = rb g rest x (i + 1) → ∃ (d z : Option V), [some (nv g), some (V.ref w), some (V.ref l), some (nv x), some (nv b), some (V.int (((ws.take i).zipIdx.map fun p => p.1 * rb g rest x (p.2 + 1)).sum + n * (b : Int))), some (V.int (i : Nat)), some (nv n)] =
          [some (nv g), some (.ref w), some (.ref l), some (nv x), some (nv (rb g rest x (i + 1))), some (nv ((ws.take (i + 1)).zipIdx.map fun p => p.1 * rb g rest x (p.2 + 1)).sum), d, z] ∧ Same H (upd H' Tt (.tup [V.int (i : Nat), nv n])) := by
        intro b hb
        subst hb
        refine ⟨some (V.int (i : Nat)), some (nv n), ?_, s6⟩
        rw [take_snoc hn, bsum_snoc (fun j => rb g rest x (j + 1)), el]
        push_cast
        all_goals rfl
      refine ⟨Tt, _, rfl, .inl (.inl upd_same), rfl, _, _, rfl, _, _, rfl, rfl, ?_⟩
      refine ⟨_, rfl, _, rfl, _, _, rfl, rfl, _, rfl, ?_⟩
      refine ite2 (fun hc => ?_) (fun hc => ?_)
      · have hix : i ≤ x := by
          have := of_decide_eq_true hc
          omega
        have e1 : (x : Int) - ((i : Nat) : Int) = ((x - i : Nat) : Int) := by omega
        refine ⟨_, rfl, _, rfl, _, rfl, _, _, rfl, rfl, mulS (by omega), _, rfl, _, rfl, _, rfl, _, _, rfl, rfl, l, _, _, _, rfl, rfl, s6.seq hl, at_sub hix hx, _, _, rfl, rfl, _, _, rfl, ?_⟩
        refine ⟨_, rfl, _, rfl, _, rfl, _, _, rfl, rfl, mulS (by omega), _, _, rfl, rfl, ?_⟩
        have e2 : (if ((i : Nat) : Int) * (g : Int) + ((rest.getD (x - i) 0 : Nat) : Int) > ((rb g rest x i : Nat) : Int) then ((i : Nat) : Int) * (g : Int) + ((rest.getD (x - i) 0 : Nat) : Int) else ((rb g rest x i : Nat) : Int)) = ((rb g rest x (i + 1) : Nat) : Int) := by
          have e3 : ((i : Nat) : Int) * (g : Int) + ((rest.getD (x - i) 0 : Nat) : Int) = ((i * g + rest.getD (x - i) 0 : Nat) : Int) := by push_cast; rfl
          rw [e3, max_cast]
          show _ = ((if i ≤ x then max (rb g rest x i) (i * g + rest.getD (x - i) 0) else rb g rest x i : Nat) : Int)
          rw [if_pos hix]
        rw [e2]
        exact fin _ rfl
      · have hix : ¬ i ≤ x := fun h => hc (decide_eq_true (by omega))
        refine ⟨_, rfl, _, rfl, _, rfl, _, _, rfl, rfl, mulS (by omega), _, _, rfl, rfl, ?_⟩
        refine fin _ ?_
        show _ = if i ≤ x then _ else _
        rw [if_neg hix]
    · rintro σ H' ⟨d, z, rfl, s5⟩
      refine ⟨_, rfl, ?_⟩
      show Q (nv ((ws.take (NL ws).length).zipIdx.map fun p => p.1 * rb g rest x (p.2 + 1)).sum) H'
      rw [NL_len, List.take_length]
      exact q H' s5
end
end Ks
namespace Ks
open PySem PySem.Spec PyProof.Rows L2
section
variable {P : Program} {w : World} {K : PySem.W.Frag} {mg : Str → Option Value} {base : Heap} {CW CC CP : Addr}
theorem tYes_i {σ : L2.St} {H : Hp} {A B : Hp → Prop} (h : A H) : tYes σ H (fun b H3 => if b = true then A H3 else B H3) := by
  show if true = true then A H else B H
  rw [if_pos rfl]
  exact h
def kterm (g : Nat) (rest : List Nat) (x kept d : Nat) : Nat := min d (x - kept) * g + rest.getD (x - min d (x - kept)) 0
def ksum (g : Nat) (ws rest : List Nat) (x kept : Nat) : Nat := (ws.zipIdx.map fun p => p.1 * kterm g rest x kept p.2).sum
def spKeptSum (K : PySem.W.Frag) : Sp := fun vs H Q _ => ∃ (g : Nat) (w l : Addr) (x kept : Nat) (ws rest : List Nat), vs = [nv g, .ref w, .ref l, nv x, nv kept] ∧ SqL K H w (NL ws) ∧ SqL K H l (NL rest) ∧ x < rest.length ∧ ws.length ≤ 1000 ∧ (∀ z ∈ ws, z ≤ 1000) ∧
  ∀ H' : Hp, Same H H' → Q (nv (ksum g ws rest x kept)) H'
theorem ok_kept_sum (F : FnIn K mg "kept_sum" s_kept_sum ["gain", "weights", "later", "x", "kept"]) (T : Txt K mg CW CC CP) (G_sold_of : FnDo P w K mg base 1 "sold_of" s_sold_of ["asked", "left", "kept"] spSold) : FnDo P w K mg base 2 "kept_sum" s_kept_sum ["gain", "weights", "later", "x", "kept"] (spKeptSum K) := by
  refine F.doIt sc_kept_sum (fun vs H Q E h => ?_) (fun f cdv A outer s H vs Q E hr h => ?_)
  · obtain ⟨g, w, l, x, kept, ws, rest, rfl, _⟩ := h
    rfl
  · obtain ⟨g, w, l, x, kept, ws, rest, rfl, hw, hl, hx, hlen, hws, q⟩ := h
    refine ⟨_, (pss_cons (ps_set (i := 5) sc_kept_sum.nd rfl (by first | exact Or.inl rfl | exact Or.inr rfl) pe_int) (pss_cons (ps_for PassesOwn.never rfl (pi_enumK K rfl rfl T.no_enumerate (pa_cons (pv 1) pa_nil)) (pg_tupK K (n := 2) rfl rfl (pgs_cons (pg_name (i := 6) sc_kept_sum.nd rfl (by first | exact Or.inl rfl | exact Or.inr rfl)) (pgs_cons (pg_name (i := 7) sc_kept_sum.nd rfl (by first | exact Or.inl rfl | exact Or.inr rfl)) pgs_nil))) (pss_cons (ps_set (i := 8) sc_kept_sum.nd rfl (by first | exact Or.inl rfl | exact Or.inr rfl) (pe_callO G_sold_of (hr.mono (by decide)) rfl (pa_cons (pv 6) (pa_cons (pv 3) (pa_cons (pv 4) pa_nil))))) (pss_one (ps_aug (i := 5) sc_kept_sum.nd rfl (by first | exact Or.inl rfl | exact Or.inr rfl) (pe_op op_mul (pv 7) (pe_op op_add (pe_op op_mul (pv 8) (pv 0)) (pe_ix (ix_listK K rfl) (pv 2) (pe_op op_sub (pv 3) (pv 8)) (fun _ _ => rfl)))) ip_add)))) (pss_one (ps_ret (pv 5))))), ?_⟩
    refine ⟨_, rfl, w, _, rfl, hw, for_enum (K := K) (a := w) (xs := NL ws) (fun i σ H' => ∃ (d z y : Option V), σ = [some (nv g), some (.ref w), some (.ref l), some (nv x), some (nv kept), some (nv ((ws.take i).zipIdx.map fun p => p.1 * kterm g rest x kept p.2).sum), d, z, y] ∧ Same H H')
      ⟨none, none, none, rfl, Same.refl H⟩ (fun i σ H' _ ⟨_, _, _, _, s5⟩ => s5.seq hw) ?_ ?_⟩
    · rintro i y Tt σ H' hi hT ⟨d, z, y', rfl, s5⟩
      obtain ⟨n, hn, rfl⟩ := NL_get hi
      have hi' : i < ws.length := (List.getElem?_eq_some_iff.mp hn).1
      have hn' : n ≤ 1000 := hws n (List.mem_of_getElem? hn)
      have s6 : Same H (upd H' Tt (.tup [V.int (i : Nat), nv n])) := s5.trans (Same.upd_new hT)
      have el : (ws.take i).length = i := by rw [List.length_take]; omega
      refine ⟨Tt, _, rfl, .inl (.inl upd_same), rfl, _, _, rfl, _, _, rfl, rfl, ?_⟩
      refine ⟨_, rfl, _, rfl, _, rfl, i, x, kept, rfl, ?_⟩
      have hs : min i (x - kept) ≤ x := by omega
      refine ⟨_, rfl, _, rfl, _, rfl, _, rfl, _, _, rfl, rfl, mulS (by omega), _, rfl, _, rfl, _, rfl, _, _, rfl, rfl, l, _, _, _, rfl, rfl, s6.seq hl, at_sub hs hx, _, _, rfl, rfl, _, _, rfl, rfl, mulS (by omega), _, _, rfl, rfl, ?_⟩
      refine ⟨some (V.int (i : Nat)), some (nv n), some (nv (min i (x - kept))), ?_, s6⟩
      rw [take_snoc hn, bsum_snoc (fun j => kterm g rest x kept j), el]
      unfold kterm
      push_cast
      all_goals rfl
    · rintro σ H' ⟨d, z, y, rfl, s5⟩
      refine ⟨_, rfl, ?_⟩
      show Q (nv ((ws.take (NL ws).length).zipIdx.map fun p => p.1 * kterm g rest x kept p.2).sum) H'
      rw [NL_len, List.take_length]
      exact q H' s5
open Vbahal (Class withClass levels bestOf greatest zeros)
theorem greatest_snoc : ∀ (l : List Nat) (x : Nat), greatest (l ++ [x]) = max (greatest l) x
  | [], x => by simp [greatest]
  | a :: l, x => by
    show max a (greatest (l ++ [x])) = max (max a (greatest l)) x
    rw [greatest_snoc l x]
    omega
theorem bestOf_rb (fare scale : Nat) (rest : List Nat) (x : Nat) : ∀ d, bestOf fare scale rest x d = rb (fare * scale) rest x (d + 1)
  | 0 => by
    unfold bestOf
    simp [greatest, rb]
  | d + 1 => by
    have ih := bestOf_rb fare scale rest x d
    unfold bestOf at ih ⊢
    show _ = if d + 1 ≤ x then max (rb (fare * scale) rest x (d + 1)) ((d + 1) * (fare * scale) + rest.getD (x - (d + 1)) 0) else rb (fare * scale) rest x (d + 1)
    by_cases h : d + 1 ≤ x
    · rw [if_pos h, ← ih]
      have e1 : min (d + 1) x + 1 = (min d x + 1) + 1 := by omega
      have e2 : min d x + 1 = d + 1 := by omega
      rw [e1, List.range_succ, List.map_append, List.map_singleton, greatest_snoc, e2, Nat.mul_assoc]
    · rw [if_neg h, ← ih]
      have e1 : min (d + 1) x = min d x := by omega
      rw [e1]
theorem withClass_eq (seats : Nat) (c : Class) (scale : Nat) (rest : List Nat) : withClass seats c scale rest = (List.range (seats + 1)).map fun x => bsum (c.fare * scale) c.weights rest x := by
  unfold withClass bsum
  congr 1
  funext x
  congr 2
  funext p
  rw [bestOf_rb]
def stepL (seats : Nat) (t : Nat × List Nat) (c : Class) : Nat × List Nat := (t.1 * c.weights.sum, withClass seats c t.1 t.2)
theorem levels_snoc (seats : Nat) : ∀ (l : List Class) (q : Nat) (u : List Nat) (c : Class), levels seats q u (l ++ [c]) = levels seats q u l ++ [stepL seats (l.foldl (stepL seats) (q, u)) c]
  | [], q, u, c => rfl
  | b :: l, q, u, c => by
    show _ :: levels seats _ _ (l ++ [c]) = _
    rw [levels_snoc seats l]
    rfl
theorem levels_len (seats : Nat) : ∀ (l : List Class) (q : Nat) (u : List Nat), (levels seats q u l).length = l.length
  | [], _, _ => rfl
  | _ :: l, _, _ => by
    show (levels seats _ _ l).length + 1 = _
    rw [levels_len seats l]
    rfl
theorem stepL_len {seats : Nat} {t : Nat × List Nat} {c : Class} : (stepL seats t c).2.length = seats + 1 := by
  show (withClass _ _ _ _).length = _
  unfold withClass
  simp
theorem fold_len {seats : Nat} : ∀ {l : List Class} {t : Nat × List Nat}, t.2.length = seats + 1 → (l.foldl (stepL seats) t).2.length = seats + 1
  | [], _, h => h
  | c :: l, t, _ => fold_len (l := l) (t := stepL seats t c) stepL_len
theorem levels_mem_len (seats : Nat) : ∀ (l : List Class) (q : Nat) (u : List Nat) (t : Nat × List Nat), t ∈ levels seats q u l → t.2.length = seats + 1
  | [], _, _, _, h => by cases h
  | c :: l, q, u, t, h => by
    have h : t ∈ (stepL seats (q, u) c) :: levels seats (q * c.weights.sum) (withClass seats c q u) l := h
    rcases List.mem_cons.mp h with e | e
    · rw [e]
      exact stepL_len
    · exact levels_mem_len seats l _ _ t e
theorem NL_refs {u : List Nat} {as : List Addr} (h : 1 ≤ u.length) : ¬ NL u = as.map V.ref := by
  intro e
  cases u with
  | nil => simp at h
  | cons a u =>
    cases as with
    | nil => cases e
    | cons b as =>
      have e := (List.cons.inj e).1
      cases e
def WsAt (K : PySem.W.Frag) (H : Hp) (wa : Addr) (wss : List (List Nat)) : Prop :=
  ∃ as : List Addr, SqL K H wa (as.map V.ref) ∧ as.length = wss.length ∧ ∀ (j : Nat) (a : Addr) (ws : List Nat), as[j]? = some a → wss[j]? = some ws → SqL K H a (NL ws)
theorem WsAt.same {H H' : Hp} {wa : Addr} {wss : List (List Nat)} (x : WsAt K H wa wss) (s : Same H H') : WsAt K H' wa wss := by
  obtain ⟨as, h1, h2, h3⟩ := x
  exact ⟨as, s.seq h1, h2, fun j a ws e1 e2 => s.seq (h3 j a ws e1 e2)⟩
def WorthsAt (CW : Addr) (H : Hp) (l : Addr) (ts : List (Nat × List Nat)) : Prop :=
  ∃ as : List Addr, H l = some (.lst (as.map V.ref)) ∧ as.length = ts.length ∧ ∀ (j : Nat) (a : Addr) (t : Nat × List Nat), as[j]? = some a → ts[j]? = some t → WorthAt CW H a t
structure COk (c : Class) : Prop where
  fare : c.fare ≤ 1000000
  len : c.weights.length ≤ 1000
  le : ∀ z ∈ c.weights, z ≤ 1000
theorem NL_ints (l : List Nat) : NL l = (l.map fun n : Nat => (n : Int)).map V.int := by
  unfold NL
  rw [List.map_map]
  rfl
theorem sum_cast : ∀ l : List Nat, (l.map fun n : Nat => (n : Int)).sum = ((l.sum : Nat) : Int)
  | [] => rfl
  | a :: l => by
    show (((a : Int)) :: l.map fun n : Nat => (n : Int)).sum = (((a :: l).sum : Nat) : Int)
    rw [List.sum_cons, List.sum_cons, sum_cast l]
    push_cast
    rfl
theorem sum_le : ∀ (l : List Nat), (∀ z ∈ l, z ≤ 1000) → l.sum ≤ 1000 * l.length
  | [], _ => by simp
  | a :: l, h => by
    have h1 := h a (by simp)
    have h2 := sum_le l fun z hz => h z (by simp [hz])
    rw [List.sum_cons, List.length_cons]
    omega
theorem COk.sum {c : Class} (h : COk c) : c.weights.sum ≤ 1000000 := by
  have h1 := sum_le c.weights h.le
  have h2 := h.len
  omega
theorem mulS2 {a : Nat} {j : Int} (h : a ≤ 1000000) : CMul j (a : Int) := .inr ⟨by omega, by omega⟩
def spWorths (K : PySem.W.Frag) (CW : Addr) : Sp := fun vs H Q _ => ∃ (fa wa : Addr) (seats : Nat) (cs : List Class), vs = [.ref fa, .ref wa, nv seats] ∧ SqL K H fa (NL (cs.map (·.fare))) ∧ WsAt K H wa (cs.map (·.weights)) ∧ seats ≤ 60 ∧ cs.length ≤ 1000 ∧ (∀ c ∈ cs, COk c) ∧
  ∀ (H' : Hp) (l : Addr), Same H H' → WorthsAt CW H' l (levels seats 1 (zeros seats) cs) → Q (.ref l) H'
theorem ok_best_worths (F : FnIn K mg "best_worths" s_best_worths ["fares", "weights", "seats"]) (T : Txt K mg CW CC CP) (GI_Worth : ClDo P w K mg base 1 "Worth" ["self", "above", "below"] CW (spInitW CW))
    (G_no_worth : FnDo P w K mg base 3 "no_worth" s_no_worth ["seats"] (spNoWorth CW)) (G_best_sum : FnDo P w K mg base 1 "best_sum" s_best_sum ["gain", "weights", "later", "x"] (spBest K)) :
    FnDo P w K mg base 4 "best_worths" s_best_worths ["fares", "weights", "seats"] (spWorths K CW) := by
  refine F.doIt sc_best_worths (fun vs H Q E h => ?_) (fun f cdv A outer s H vs Q E hr h => ?_)
  · obtain ⟨fa, wa, seats, cs, rfl, _⟩ := h
    rfl
  · obtain ⟨fa, wa, seats, cs, rfl, hf, ⟨was, hwa, hwl, hws⟩, hseats, hcl, hcs, q⟩ := h
    refine ⟨_, (pss_cons (ps_set (i := 3) sc_best_worths.nd rfl (by first | exact Or.inl rfl | exact Or.inr rfl) (pe_lst pa_nil)) (pss_cons (ps_set (i := 4) sc_best_worths.nd rfl (by first | exact Or.inl rfl | exact Or.inr rfl) (pe_callO G_no_worth (hr.mono (by decide)) rfl (pa_cons (pv 2) pa_nil))) (pss_cons (ps_for PassesOwn.never rfl (pi_zipK K rfl rfl T.no_zip (pa_cons (pv 0) (pa_cons (pv 1) pa_nil))) (pg_tupK K (n := 2) rfl rfl (pgs_cons (pg_name (i := 5) sc_best_worths.nd rfl (by first | exact Or.inl rfl | exact Or.inr rfl)) (pgs_cons (pg_name (i := 6) sc_best_worths.nd rfl (by first | exact Or.inl rfl | exact Or.inr rfl)) pgs_nil))) (pss_cons (ps_set (i := 7) sc_best_worths.nd rfl (by first | exact Or.inl rfl | exact Or.inr rfl) (pe_op op_mul (pv 5) (pe_fldK K rfl (pv 4) rfl))) (pss_cons (ps_setLc (i := 8) rfl sc_best_worths.nd rfl rfl (sw_true rfl rfl rfl rfl) (pi_range1 rfl T.no_range (pa_cons (pe_op op_add (pv 2) pe_int) pa_nil)) (blkOk_by (own := [("x", 9)]) rfl) (fun _ _ _ _ _ => (pg_name (i := 9) sc_best_worths.nd rfl (by first | exact Or.inl rfl | exact Or.inr rfl))) (fun _ _ _ _ _ => pts_nil) (fun _ _ _ _ _ => (pe_callO G_best_sum (hr.mono (by decide)) rfl (pa_cons (pv 7) (pa_cons (pv 6) (pa_cons (pe_fldK K rfl (pv 4) rfl) (pa_cons (pv 9) pa_nil))))))) (pss_cons (ps_set (i := 4) sc_best_worths.nd rfl (by first | exact Or.inl rfl | exact Or.inr rfl) (pe_makeO GI_Worth (hr.mono (by decide)) rfl (pa_cons (pv 8) (pa_cons (pe_op op_mul (pe_fldK K rfl (pv 4) rfl) (pe_callB (cr_sumK K rfl rfl) (by rfl) T.no_sum boot_sum (pa_cons (pv 6) pa_nil))) pa_nil)))) (pss_one (ps_expr (pe_bm PySem.F.plainAttrs_list PySem.F.slot_list_append PySem.F.type_list_append mt_append (pv 3) (pa_cons (pv 4) pa_nil)))))))) (pss_one (ps_ret (pv 3)))))), ?_⟩
    refine ⟨Nat.zero_le _, fun wl hwl0 => ?_⟩
    have s0 : Same H (upd H wl (.lst [])) := Same.upd_new hwl0
    refine ⟨_, rfl, seats, rfl, hseats, fun H1 la s1 w1 => ?_⟩
    have hlen1 : (NL (cs.map (·.fare))).length = cs.length := by rw [NL_len, List.length_map]
    have hlen2 : (was.map V.ref).length = cs.length := by rw [List.length_map, hwl, List.length_map]
    have hmin : min (NL (cs.map (·.fare))).length (was.map V.ref).length = cs.length := by rw [hlen1, hlen2, Nat.min_self]
    have s01 := s0.trans s1
    refine ⟨_, rfl, _, rfl, fa, wa, _, _, rfl, s01.seq hf, s01.seq hwa, for_zip (K := K) (a := fa) (b := wa) (xs := NL (cs.map (·.fare))) (ys := was.map V.ref)
      (fun i σ H' => ∃ (la : Addr) (as : List Addr) (v1 v2 v3 v4 : Option V), σ = [some (.ref fa), some (.ref wa), some (nv seats), some (.ref wl), some (.ref la), v1, v2, v3, v4, none] ∧ Same H H' ∧ H' wl = some (.lst (as.map V.ref)) ∧
        as.length = i ∧ (∀ (j : Nat) (a : Addr) (t : Nat × List Nat), as[j]? = some a → (levels seats 1 (zeros seats) (cs.take i))[j]? = some t → WorthAt CW H' a t) ∧ WorthAt CW H' la ((cs.take i).foldl (stepL seats) (1, zeros seats)))
      ⟨la, [], none, none, none, none, rfl, s01, s1 _ _ upd_same, rfl, (fun j a t e => by simp at e), w1⟩ (fun i σ H' _ ⟨_, _, _, _, _, _, _, s5, _⟩ => ⟨s5.seq hf, s5.seq hwa⟩) ?_ ?_⟩
    · rintro i y z Tt σ H' hi hi2 hT ⟨la, as, v1, v2, v3, v4, rfl, s5, hwl', hal, hat, hla⟩
      obtain ⟨fr, hfr, rfl⟩ := NL_get hi
      obtain ⟨c, hc, hcf⟩ : ∃ c, cs[i]? = some c ∧ c.fare = fr := by
        rw [List.getElem?_map] at hfr
        cases e : cs[i]? with
        | none => rw [e] at hfr; cases hfr
        | some c => rw [e] at hfr; exact ⟨c, rfl, Option.some.inj hfr⟩
      subst hcf
      obtain ⟨ca, hca, rfl⟩ : ∃ ca, was[i]? = some ca ∧ z = V.ref ca := by
        rw [List.getElem?_map] at hi2
        cases e : was[i]? with
        | none => rw [e] at hi2; cases hi2
        | some ca => rw [e] at hi2; exact ⟨ca, rfl, (Option.some.inj hi2).symm⟩
      have hcw : SqL K H ca (NL c.weights) := hws i ca c.weights hca (by rw [List.getElem?_map, hc]; rfl)
      have ok : COk c := hcs c (List.mem_of_getElem? hc)
      have s6 : Same H' (upd H' Tt (.tup [nv c.fare, V.ref ca])) := Same.upd_new hT
      have hrest : ((cs.take i).foldl (stepL seats) (1, zeros seats)).2.length = seats + 1 := fold_len (by simp [zeros])
      generalize ht : (cs.take i).foldl (stepL seats) (1, zeros seats) = t at hla hrest
      obtain ⟨ql, rest⟩ := t
      have hrest : rest.length = seats + 1 := hrest
      obtain ⟨lb, ⟨dx, fs, h1, h2, h3⟩, h4⟩ := hla
      refine ⟨Tt, _, rfl, .inl (.inl upd_same), rfl, _, _, rfl, _, _, rfl, rfl, ?_⟩
      refine ⟨_, rfl, _, rfl, la, CW, dx, fs, _, rfl, s6 _ _ h1, T.cW, T.w_below, h3, _, _, rfl, rfl, mulS ok.fare, ?_⟩
      refine ⟨_, rfl, _, _, rfl, rfl, _, rfl, (by omega), (by omega), ?_⟩
      intro D hD
      have e1 : ((seats : Int) + 1).toNat = seats + 1 := by omega
      have s7 : Same H (upd H' Tt (.tup [nv c.fare, V.ref ca])) := s5.trans s6
      refine lc_range (n := ((seats : Int) + 1).toNat) (fun j Hj => Same (upd H' Tt (.tup [nv c.fare, V.ref ca])) Hj ∧ Hj D = some (.lst (NL ((List.range j).map fun x => bsum (c.fare * ql) c.weights rest x))))
        ⟨Same.upd_new hD, upd_same⟩ ?_ ?_
      · rintro j Hj hj ⟨s8, hDj⟩
        rw [e1] at hj
        refine ⟨rfl, tYes_i ?_⟩
        have ej : (0 : Int) + (j : Nat) = (j : Int) := by omega
        rw [ej]
        refine ⟨_, rfl, _, rfl, _, rfl, la, CW, dx, fs, _, rfl, s8 _ _ (s6 _ _ h1), T.cW, T.w_above, h2, _, rfl, ?_⟩
        refine ⟨c.fare * ql, ca, lb, j, c.weights, rest, ?_, (s7.trans s8).seq hcw, SqL.of (s8 _ _ (s6 _ _ h4)), by omega, ok.len, ok.le, fun H9 s9 => ?_⟩
        · push_cast
          all_goals rfl
        have hD9 := s9 _ _ hDj
        refine ⟨_, hD9, (by rw [NL_len, List.length_map, List.length_range]; show j < 16777216; omega), ?_, ?_⟩
        · intro b o e
          have hb : b ≠ D := ne_of_none e hD
          rw [upd_ne hb]
          exact s9 _ _ (s8 _ _ e)
        · rw [upd_same, List.range_succ, List.map_append]
          unfold NL
          rw [List.map_append]
          rfl
      · rintro Hj ⟨s8, hDj⟩
        rw [e1] at hDj
        have hDj : Hj D = some (.lst (NL (withClass seats c ql rest))) := by
          rw [withClass_eq]
          exact hDj
        have s9 := s7.trans s8
        refine ⟨_, rfl, _, rfl, la, CW, dx, fs, _, rfl, s8 _ _ (s6 _ _ h1), T.cW, T.w_below, h3, _, rfl, ca, c.weights.map (fun n : Nat => (n : Int)), rfl, by rw [← NL_ints]; exact s9.seq hcw, _, _, rfl, rfl, by rw [sum_cast]; exact mulS2 ok.sum, ?_⟩
        intro x dx2 nx nd ne
        have ev : V.int ((ql : Int) * (c.weights.map fun n : Nat => (n : Int)).sum) = nv (ql * c.weights.sum) := by
          rw [sum_cast]
          push_cast
          rfl
        refine ⟨x, dx2, D, ql * c.weights.sum, by rw [← ev]; rfl, upd_same, fun H10 hW k10 => ⟨rfl, ?_⟩⟩
        have s10 : Same Hj H10 := Same.made nx nd k10
        have hwl10 : H10 wl = some (.lst (as.map V.ref)) := s10 _ _ (s8 _ _ (s6 _ _ hwl'))
        have hlt : i < cs.length := (List.getElem?_eq_some_iff.mp hc).1
        refine ⟨_, rfl, .inl ⟨rfl, _, SqL.of hwl10⟩, _, rfl, wl, _, _, rfl, rfl, hwl10, (by rw [List.length_map, hal]; show i < 16777216; omega), ?_⟩
        have etake : cs.take (i + 1) = cs.take i ++ [c] := take_snoc hc
        have wnew : WorthAt CW H10 x (stepL seats (ql, rest) c) := ⟨D, hW, s10 _ _ hDj⟩
        have nwl : ∀ b o, H10 b = some o → b ≠ wl → upd H10 wl (.lst (as.map V.ref ++ [V.ref x])) b = some o := fun b o e hb => by rw [upd_ne hb]; exact e
        have wkeep : ∀ a t, t.2.length = seats + 1 → WorthAt CW H10 a t → WorthAt CW (upd H10 wl (.lst (as.map V.ref ++ [V.ref x]))) a t := by
          rintro a t htl ⟨lc, ⟨dy, gs, e1, e2, e3⟩, e4⟩
          exact ⟨lc, ⟨dy, gs, nwl _ _ e1 (ne_of e1 hwl10 (by intro z; cases z)), e2, e3⟩, nwl _ _ e4 (ne_of e4 hwl10 fun z => NL_refs (by omega) (HO.lst.inj z))⟩
        refine ⟨x, as ++ [x], some (nv c.fare), some (V.ref ca), some (V.int (c.fare * ql)), some (V.ref D), rfl, ?_, ?_, ?_, ?_, ?_⟩
        · exact fun b o e => nwl b o ((s9.trans s10) b o e) (ne_of_none e hwl0)
        · rw [upd_same, List.map_append]
          rfl
        · simp [hal]
        · intro j a t ea et
          rw [etake, levels_snoc, ht] at et
          have hll : (levels seats 1 (zeros seats) (cs.take i)).length = i := by rw [levels_len, List.length_take]; omega
          by_cases hj : j < i
          · rw [List.getElem?_append_left (by omega)] at ea et
            exact wkeep _ _ (levels_mem_len _ _ _ _ _ (List.mem_of_getElem? et)) ((hat j a t ea et).same ((s6.trans s8).trans s10))
          · have hjle : j < (as ++ [x]).length := (List.getElem?_eq_some_iff.mp ea).1
            rw [List.length_append, hal, List.length_singleton] at hjle
            have ej : j = i := by omega
            subst ej
            rw [List.getElem?_append_right (by omega), hal, Nat.sub_self] at ea
            rw [List.getElem?_append_right (by omega), hll, Nat.sub_self] at et
            cases ea
            cases et
            exact wkeep _ _ stepL_len wnew
        · rw [etake, List.foldl_append, ht]
          exact wkeep _ _ stepL_len wnew
    · rintro σ H' ⟨la, as, v1, v2, v3, v4, rfl, s5, hwl', hal, hat, hla⟩
      refine ⟨_, rfl, ?_⟩
      rw [hmin, List.take_length] at hat
      refine q H' wl s5 ⟨as, hwl', ?_, hat⟩
      rw [levels_len, hal, hmin]
end
end Ks
namespace Ks
open PySem PySem.Spec PyProof.Rows L2
section
variable {P : Program} {w : World} {K : PySem.W.Frag} {mg : Str → Option Value} {base : Heap} {CW CC CP : Addr}
open Vbahal (Class withClass levels bestOf greatest zeros meanWith takes against protectionIn)
theorem against_cons (p : List Nat) (i : Nat) : against p i = (0 :: p).getD i 0 := by
  unfold against
  cases i with
  | zero => rfl
  | succ i =>
    rw [if_neg (by omega)]
    simp
def keptU (seats kept : Nat) (c : Class) (q : Nat) (rest : List Nat) : List Nat := (List.range (seats + 1)).map fun x => ksum (c.fare * q) c.weights rest x kept
theorem meanWith_cons (seats : Nat) (p : List Nat) (i q : Nat) (rest : List Nat) (c : Class) (r : List Class) :
    meanWith seats p i q rest (c :: r) = meanWith seats p (i + 1) (q * c.weights.sum) (keptU seats ((0 :: p).getD i 0) c q rest) r := by
  show meanWith seats p (i + 1) _ _ r = _
  congr 1
  unfold keptU ksum
  congr 1
  funext x
  congr 2
  funext z
  unfold kterm takes
  rw [against_cons, Nat.mul_assoc]
def spKeptWorth (K : PySem.W.Frag) (CW : Addr) : Sp := fun vs H Q _ => ∃ (fa wa ka : Addr) (seats : Nat) (cs : List Class) (p : List Nat), vs = [.ref fa, .ref wa, nv seats, .ref ka] ∧ SqL K H fa (NL (cs.map (·.fare))) ∧ WsAt K H wa (cs.map (·.weights)) ∧ SqL K H ka (NL (0 :: p)) ∧
  seats ≤ 60 ∧ cs.length ≤ 1000 ∧ p.length + 1 = cs.length ∧ (∀ c ∈ cs, COk c) ∧
  ∀ (H' : Hp) (l : Addr), Same H H' → WorthAt CW H' l (meanWith seats p 0 1 (zeros seats) cs) → Q (.ref l) H'
theorem ok_kept_worth (F : FnIn K mg "kept_worth" s_kept_worth ["fares", "weights", "seats", "kept"]) (T : Txt K mg CW CC CP) (GI_Worth : ClDo P w K mg base 1 "Worth" ["self", "above", "below"] CW (spInitW CW))
    (G_no_worth : FnDo P w K mg base 3 "no_worth" s_no_worth ["seats"] (spNoWorth CW)) (G_kept_sum : FnDo P w K mg base 2 "kept_sum" s_kept_sum ["gain", "weights", "later", "x", "kept"] (spKeptSum K)) :
    FnDo P w K mg base 4 "kept_worth" s_kept_worth ["fares", "weights", "seats", "kept"] (spKeptWorth K CW) := by
  refine F.doIt sc_kept_worth (fun vs H Q E h => ?_) (fun f cdv A outer s H vs Q E hr h => ?_)
  · obtain ⟨fa, wa, ka, seats, cs, p, rfl, _⟩ := h
    rfl
  · obtain ⟨fa, wa, ka, seats, cs, p, rfl, hf, ⟨was, hwa, hwl, hws⟩, hka, hseats, hcl, hpl, hcs, q⟩ := h
    refine ⟨_, (pss_cons (ps_set (i := 4) sc_kept_worth.nd rfl (by first | exact Or.inl rfl | exact Or.inr rfl) (pe_callO G_no_worth (hr.mono (by decide)) rfl (pa_cons (pv 2) pa_nil))) (pss_cons (ps_for PassesOwn.never rfl (pi_enumK K rfl rfl T.no_enumerate (pa_cons (pv 0) pa_nil)) (pg_tupK K (n := 2) rfl rfl (pgs_cons (pg_name (i := 5) sc_kept_worth.nd rfl (by first | exact Or.inl rfl | exact Or.inr rfl)) (pgs_cons (pg_name (i := 6) sc_kept_worth.nd rfl (by first | exact Or.inl rfl | exact Or.inr rfl)) pgs_nil))) (pss_cons (ps_set (i := 7) sc_kept_worth.nd rfl (by first | exact Or.inl rfl | exact Or.inr rfl) (pe_op op_mul (pv 6) (pe_fldK K rfl (pv 4) rfl))) (pss_cons (ps_setLc (i := 8) rfl sc_kept_worth.nd rfl rfl (sw_true rfl rfl rfl rfl) (pi_range1 rfl T.no_range (pa_cons (pe_op op_add (pv 2) pe_int) pa_nil)) (blkOk_by (own := [("x", 9)]) rfl) (fun _ _ _ _ _ => (pg_name (i := 9) sc_kept_worth.nd rfl (by first | exact Or.inl rfl | exact Or.inr rfl))) (fun _ _ _ _ _ => pts_nil) (fun _ _ _ _ _ => (pe_callO G_kept_sum (hr.mono (by decide)) rfl (pa_cons (pv 7) (pa_cons (pe_ix (ix_listK K rfl) (pv 1) (pv 5) (fun _ _ => rfl)) (pa_cons (pe_fldK K rfl (pv 4) rfl) (pa_cons (pv 9) (pa_cons (pe_ix (ix_listK K rfl) (pv 3) (pv 5) (fun _ _ => rfl)) pa_nil)))))))) (pss_one (ps_set (i := 4) sc_kept_worth.nd rfl (by first | exact Or.inl rfl | exact Or.inr rfl) (pe_makeO GI_Worth (hr.mono (by decide)) rfl (pa_cons (pv 8) (pa_cons (pe_op op_mul (pe_fldK K rfl (pv 4) rfl) (pe_callB (cr_sumK K rfl rfl) (by rfl) T.no_sum boot_sum (pa_cons (pe_ix (ix_listK K rfl) (pv 1) (pv 5) (fun _ _ => rfl)) pa_nil))) pa_nil)))))))) (pss_one (ps_ret (pv 4))))), ?_⟩
    refine ⟨_, rfl, seats, rfl, hseats, fun H1 la s1 w1 => ?_⟩
    have hlen1 : (NL (cs.map (·.fare))).length = cs.length := by rw [NL_len, List.length_map]
    refine ⟨_, rfl, fa, _, rfl, s1.seq hf, for_enum (K := K) (a := fa) (xs := NL (cs.map (·.fare)))
      (fun i σ H' => ∃ (la : Addr) (ql : Nat) (rest : List Nat) (v1 v2 v3 v4 : Option V), σ = [some (.ref fa), some (.ref wa), some (nv seats), some (.ref ka), some (.ref la), v1, v2, v3, v4, none] ∧ Same H H' ∧ rest.length = seats + 1 ∧ WorthAt CW H' la (ql, rest) ∧
        meanWith seats p i ql rest (cs.drop i) = meanWith seats p 0 1 (zeros seats) cs)
      ⟨la, 1, _, none, none, none, none, rfl, s1, by simp, w1, rfl⟩ (fun i σ H' _ ⟨_, _, _, _, _, _, _, _, s5, _⟩ => s5.seq hf) ?_ ?_⟩
    · rintro i y Tt σ H' hi hT ⟨la, ql, rest, v1, v2, v3, v4, rfl, s5, hrest, hla, hmean⟩
      obtain ⟨fr, hfr, rfl⟩ := NL_get hi
      obtain ⟨c, hc, hcf⟩ : ∃ c, cs[i]? = some c ∧ c.fare = fr := by
        rw [List.getElem?_map] at hfr
        cases e : cs[i]? with
        | none => rw [e] at hfr; cases hfr
        | some c => rw [e] at hfr; exact ⟨c, rfl, Option.some.inj hfr⟩
      subst hcf
      have hlt : i < cs.length := (List.getElem?_eq_some_iff.mp hc).1
      have hwl' : was.length = cs.length := by rw [hwl, List.length_map]
      obtain ⟨ca, hca⟩ : ∃ ca, was[i]? = some ca := ⟨_, List.getElem?_eq_getElem (by omega)⟩
      have hcw : SqL K H ca (NL c.weights) := hws i ca c.weights hca (by rw [List.getElem?_map, hc]; rfl)
      have hcai : atI (was.map V.ref) (i : Int) = some (V.ref ca) := atI_nat (by rw [List.getElem?_map, hca]; rfl)
      have hki : atI (NL (0 :: p)) (i : Int) = some (nv ((0 :: p).getD i 0)) := NL_getD (by simp; omega)
      have ok : COk c := hcs c (List.mem_of_getElem? hc)
      have s6 : Same H' (upd H' Tt (.tup [V.int (i : Nat), nv c.fare])) := Same.upd_new hT
      obtain ⟨lb, ⟨dx, fs, h1, h2, h3⟩, h4⟩ := hla
      refine ⟨Tt, _, rfl, .inl (.inl upd_same), rfl, _, _, rfl, _, _, rfl, rfl, ?_⟩
      refine ⟨_, rfl, _, rfl, la, CW, dx, fs, _, rfl, s6 _ _ h1, T.cW, T.w_below, h3, _, _, rfl, rfl, mulS ok.fare, ?_⟩
      refine ⟨_, rfl, _, _, rfl, rfl, _, rfl, (by omega), (by omega), ?_⟩
      intro D hD
      have e1 : ((seats : Int) + 1).toNat = seats + 1 := by omega
      have s7 : Same H (upd H' Tt (.tup [V.int (i : Nat), nv c.fare])) := s5.trans s6
      refine lc_range (n := ((seats : Int) + 1).toNat) (fun j Hj => Same (upd H' Tt (.tup [V.int (i : Nat), nv c.fare])) Hj ∧ Hj D = some (.lst (NL ((List.range j).map fun x => ksum (c.fare * ql) c.weights rest x ((0 :: p).getD i 0)))))
        ⟨Same.upd_new hD, upd_same⟩ ?_ ?_
      · rintro j Hj hj ⟨s8, hDj⟩
        rw [e1] at hj
        refine ⟨rfl, tYes_i ?_⟩
        have ej : (0 : Int) + (j : Nat) = (j : Int) := by omega
        rw [ej]
        refine ⟨_, rfl, _, rfl, _, rfl, wa, _, _, _, rfl, rfl, (s7.trans s8).seq hwa, hcai, _, rfl, la, CW, dx, fs, _, rfl, s8 _ _ (s6 _ _ h1), T.cW, T.w_above, h2, _, rfl, _, rfl, _, rfl, ka, _, _, _, rfl, rfl, (s7.trans s8).seq hka, hki, ?_⟩
        refine ⟨c.fare * ql, ca, lb, j, (0 :: p).getD i 0, c.weights, rest, ?_, (s7.trans s8).seq hcw, SqL.of (s8 _ _ (s6 _ _ h4)), by omega, ok.len, ok.le, fun H9 s9 => ?_⟩
        · push_cast
          all_goals rfl
        have hD9 := s9 _ _ hDj
        refine ⟨_, hD9, (by rw [NL_len, List.length_map, List.length_range]; show j < 16777216; omega), ?_, ?_⟩
        · intro b o e
          have hb : b ≠ D := ne_of_none e hD
          rw [upd_ne hb]
          exact s9 _ _ (s8 _ _ e)
        · rw [upd_same, List.range_succ, List.map_append]
          unfold NL
          rw [List.map_append]
          rfl
      · rintro Hj ⟨s8, hDj⟩
        rw [e1] at hDj
        have hDj : Hj D = some (.lst (NL (keptU seats ((0 :: p).getD i 0) c ql rest))) := hDj
        have s9 := s7.trans s8
        refine ⟨_, rfl, _, rfl, la, CW, dx, fs, _, rfl, s8 _ _ (s6 _ _ h1), T.cW, T.w_below, h3, _, rfl, _, rfl, wa, _, _, _, rfl, rfl, s9.seq hwa, hcai, ca, c.weights.map (fun n : Nat => (n : Int)), rfl, by rw [← NL_ints]; exact s9.seq hcw, _, _, rfl, rfl, by rw [sum_cast]; exact mulS2 ok.sum, ?_⟩
        intro x dx2 nx nd ne
        have ev : V.int ((ql : Int) * (c.weights.map fun n : Nat => (n : Int)).sum) = nv (ql * c.weights.sum) := by
          rw [sum_cast]
          push_cast
          rfl
        refine ⟨x, dx2, D, ql * c.weights.sum, by rw [← ev]; rfl, upd_same, fun H10 hW k10 => ⟨rfl, ?_⟩⟩
        have s10 : Same Hj H10 := Same.made nx nd k10
        refine ⟨x, ql * c.weights.sum, keptU seats ((0 :: p).getD i 0) c ql rest, some (V.int (i : Nat)), some (nv c.fare), some (V.int (c.fare * ql)), some (V.ref D), rfl, s9.trans s10, by simp [keptU], ⟨D, hW, s10 _ _ hDj⟩, ?_⟩
        rw [← hmean, List.drop_eq_getElem_cons hlt, meanWith_cons]
        have ec : cs[i] = c := (List.getElem?_eq_some_iff.mp hc).2
        rw [ec]
    · rintro σ H' ⟨la, ql, rest, v1, v2, v3, v4, rfl, s5, hrest, hla, hmean⟩
      refine ⟨_, rfl, ?_⟩
      rw [hlen1, List.drop_length] at hmean
      refine q H' la s5 ?_
      rw [← hmean]
      exact hla
def pgood (fare q : Nat) (u : List Nat) (y : Nat) : Bool := decide (1 ≤ y) && decide (fare * q < u.getD y 0 - u.getD (y - 1) 0)
theorem greatest_le : ∀ (l : List Nat) (n : Nat), (∀ x ∈ l, x ≤ n) → greatest l ≤ n
  | [], n, _ => Nat.zero_le _
  | a :: l, n, h => by
    have h1 := h a (by simp)
    have h2 := greatest_le l n fun x hx => h x (by simp [hx])
    show max a (greatest l) ≤ n
    omega
def pbest (fare q : Nat) (u : List Nat) (n : Nat) : Nat := greatest ((List.range n).filter (pgood fare q u))
theorem pbest_succ (fare q : Nat) (u : List Nat) (n : Nat) : pbest fare q u (n + 1) = if pgood fare q u n = true then n else pbest fare q u n := by
  unfold pbest
  rw [List.range_succ, List.filter_append, List.filter_cons, List.filter_nil]
  split
  · rw [greatest_snoc]
    have := greatest_le ((List.range n).filter (pgood fare q u)) n fun x hx => by
      have := (List.mem_filter.mp hx).1
      rw [List.mem_range] at this
      omega
    omega
  · rw [List.append_nil]
theorem pbest_one (fare q : Nat) (u : List Nat) : pbest fare q u 1 = 0 := by
  rw [pbest_succ]
  simp [pgood, pbest, greatest]
def spProt (CW : Addr) : Sp := fun vs H Q _ => ∃ (a : Addr) (fare : Nat) (t : Nat × List Nat), vs = [.ref a, nv fare] ∧ WorthAt CW H a t ∧ fare ≤ 1000000 ∧ 1 ≤ t.2.length ∧ t.2.length ≤ 1000 ∧ Q (nv (pbest fare t.1 t.2 t.2.length)) H
theorem ok_protection (F : FnIn K mg "protection" s_protection ["worth", "fare"]) (T : Txt K mg CW CC CP) : FnDo P w K mg base 1 "protection" s_protection ["worth", "fare"] (spProt CW) := by
  refine F.doIt sc_protection (fun vs H Q E h => ?_) (fun f cdv A outer s H vs Q E hr h => ?_)
  · obtain ⟨a, fare, t, rfl, _⟩ := h
    rfl
  · obtain ⟨a, fare, ⟨ql, u⟩, rfl, ⟨la, ⟨dx, fs, h1, h2, h3⟩, h4⟩, hfare, hu1, hu2, q⟩ := h
    have hu1 : 1 ≤ u.length := hu1
    have hu2 : u.length ≤ 1000 := hu2
    refine ⟨_, (pss_cons (ps_set (i := 2) sc_protection.nd rfl (by first | exact Or.inl rfl | exact Or.inr rfl) pe_int) (pss_cons (ps_for PassesOwn.never rfl (pi_range2 rfl T.no_range (pa_cons pe_int (pa_cons (pe_callB (call_lenK K rfl) (by rfl) T.no_len PySem.boot_len (pa_cons (pe_fldK K rfl (pv 0) rfl) pa_nil)) pa_nil))) (pg_name (i := 3) sc_protection.nd rfl (by first | exact Or.inl rfl | exact Or.inr rfl)) (pss_one (ps_if (pt_cmpR op_gt (pe_op op_sub (pe_ix (ix_listK K rfl) (pe_fldK K rfl (pv 0) rfl) (pv 3) (fun _ _ => rfl)) (pe_ix (ix_listK K rfl) (pe_fldK K rfl (pv 0) rfl) (pe_op op_sub (pv 3) pe_int) (fun _ _ => rfl))) (pe_op op_mul (pv 1) (pe_fldK K rfl (pv 0) rfl)) (nomark _)) (pss_one (ps_set (i := 2) sc_protection.nd rfl (by first | exact Or.inl rfl | exact Or.inr rfl) (pv 3))) pss_nil))) (pss_one (ps_ret (pv 2))))), ?_⟩
    refine ⟨_, rfl, a, CW, dx, fs, _, rfl, h1, T.cW, T.w_above, h2, la, _, rfl, .inl (SqL.of h4), 1, _, rfl, ?_, ?_⟩
    · rw [NL_len]
      omega
    have e1 : ((((NL u).length : Nat) : Int) - 1).toNat = u.length - 1 := by rw [NL_len]; omega
    refine for_range (n := ((((NL u).length : Nat) : Int) - 1).toNat) (fun i σ H' => H' = H ∧ ∃ v : Option V, σ = [some (.ref a), some (nv fare), some (nv (pbest fare ql u (i + 1))), v]) ⟨rfl, none, ?_⟩ ?_ ?_
    · rw [pbest_one]
      rfl
    · rintro i σ H' hi ⟨rfl, v, rfl⟩
      rw [e1] at hi
      have ey : (1 : Int) + (i : Nat) = ((i + 1 : Nat) : Int) := by omega
      rw [ey]
      have a1 : atI (NL u) ((i + 1 : Nat) : Int) = some (nv (u.getD (i + 1) 0)) := NL_getD (by omega)
      have a2 : atI (NL u) (((i + 1 : Nat) : Int) - 1) = some (nv (u.getD i 0)) := by
        have e : ((i + 1 : Nat) : Int) - 1 = (i : Int) := by omega
        rw [e]
        exact NL_getD (by omega)
      refine ⟨_, rfl, a, CW, dx, fs, _, rfl, h1, T.cW, T.w_above, h2, _, rfl, la, _, _, _, rfl, rfl, SqL.of h4, a1, _, rfl, a, CW, dx, fs, _, rfl, h1, T.cW, T.w_above, h2, _, rfl, _, _, rfl, rfl, la, _, _, _, rfl, rfl, SqL.of h4, a2, _, _, rfl, rfl,
        _, rfl, _, rfl, a, CW, dx, fs, _, rfl, h1, T.cW, T.w_below, h3, _, _, rfl, rfl, mulS hfare, _, _, rfl, rfl, _, rfl, ?_⟩
      have hcond : (decide ((fare : Int) * (ql : Int) < ((u.getD (i + 1) 0 : Nat) : Int) - ((u.getD i 0 : Nat) : Int))) = pgood fare ql u (i + 1) := by
        unfold pgood
        rw [Nat.add_sub_cancel]
        have : decide (1 ≤ i + 1) = true := decide_eq_true (by omega)
        rw [this, Bool.true_and]
        apply decide_eq_decide.mpr
        have e3 : (fare : Int) * (ql : Int) = ((fare * ql : Nat) : Int) := by push_cast; rfl
        rw [e3]
        omega
      rw [hcond]
      refine ite2 (fun hc => ?_) (fun hc => ?_)
      · refine ⟨_, rfl, rfl, some (nv (i + 1)), ?_⟩
        rw [pbest_succ fare ql u (i + 1), if_pos hc]
        rfl
      · refine ⟨rfl, some (nv (i + 1)), ?_⟩
        rw [pbest_succ fare ql u (i + 1), if_neg hc]
        rfl
    · rintro σ H' ⟨rfl, v, rfl⟩
      refine ⟨_, rfl, ?_⟩
      rw [e1, Nat.sub_add_cancel hu1]
      exact q
theorem levels_take (seats : Nat) : ∀ (n : Nat) (l : List Class) (q : Nat) (u : List Nat), levels seats q u (l.take n) = (levels seats q u l).take n
  | 0, l, q, u => by simp [levels]
  | n + 1, [], q, u => by simp [levels]
  | n + 1, c :: l, q, u => by
    show _ :: levels seats _ _ (l.take n) = (_ :: levels seats _ _ l).take (n + 1)
    rw [levels_take seats n l, List.take_succ_cons]
theorem cut_to {xs : List V} {n : Nat} : cutV xs none (some (n : Int)) = xs.take n := by
  unfold cutV
  rw [HT.sIx_none, HT.sIx_nat, List.drop_zero, Nat.sub_zero, List.take_eq_take_iff]
  omega
theorem cut_m1 {xs : List V} : cutV xs none (some (-1)) = xs.take (xs.length - 1) := by
  unfold cutV
  rw [HT.sIx_none, List.drop_zero, Nat.sub_zero]
  congr 1
  show (if (-1 : Int) < 0 then ((-1 : Int) + (xs.length : Int)).toNat else min (-1 : Int).toNat xs.length) = _
  rw [if_pos (by decide)]
  omega
theorem cut_from {xs : List V} {n : Nat} : cutV xs (some (n : Int)) none = xs.drop n := by
  unfold cutV
  rw [HT.sIx_none, HT.sIx_nat]
  by_cases h : n ≤ xs.length
  · rw [Nat.min_eq_left h, List.take_of_length_le (by rw [List.length_drop]; omega)]
  · rw [Nat.min_eq_right (by omega), List.drop_length, List.drop_of_length_le (by omega)]
    simp
theorem NL_take (l : List Nat) (n : Nat) : (NL l).take n = NL (l.take n) := by
  unfold NL
  rw [List.map_take]
theorem NL_drop (l : List Nat) (n : Nat) : (NL l).drop n = NL (l.drop n) := by
  unfold NL
  rw [List.map_drop]
theorem take_get {α : Type} {l : List α} {n j : Nat} {x : α} (h : (l.take n)[j]? = some x) : l[j]? = some x ∧ j < n := by
  rw [List.getElem?_take] at h
  split at h
  · exact ⟨h, by assumption⟩
  · cases h
def prots (seats : Nat) (cs : List Class) : List Nat := (List.range (cs.length - 1)).map fun i => protectionIn (levels seats 1 (zeros seats) cs) seats ((cs[i + 1]?.map (·.fare)).getD 0) i
theorem prots_eq (st : Vbahal.State) : Vbahal.protections st = prots st.seats st.classes := rfl
theorem protectionIn_eq {ts : List (Nat × List Nat)} {i seats fare : Nat} {t : Nat × List Nat} (h : ts[i]? = some t) : protectionIn ts seats fare i = pbest fare t.1 t.2 (seats + 1) := by
  unfold protectionIn pbest
  have e : ∀ y, Vbahal.worthIn ts i y = t.2.getD y 0 := fun y => by unfold Vbahal.worthIn; rw [h]; rfl
  have e2 : Vbahal.unitIn ts i = t.1 := by unfold Vbahal.unitIn; rw [h]; rfl
  congr 1
  congr 1
  funext y
  unfold pgood
  rw [e, e, e2]
def spBestKept (K : PySem.W.Frag) : Sp := fun vs H Q _ => ∃ (fa wa : Addr) (seats : Nat) (cs : List Class), vs = [.ref fa, .ref wa, nv seats] ∧ SqL K H fa (NL (cs.map (·.fare))) ∧ WsAt K H wa (cs.map (·.weights)) ∧ seats ≤ 60 ∧ cs.length ≤ 1000 ∧ (∀ c ∈ cs, COk c) ∧
  ∀ (H' : Hp) (l : Addr), Same H H' → H l = none → H' l = some (.lst (NL (prots seats cs))) → Q (.ref l) H'
theorem ok_best_kept (F : FnIn K mg "best_kept" s_best_kept ["fares", "weights", "seats"]) (T : Txt K mg CW CC CP) (G_best_worths : FnDo P w K mg base 4 "best_worths" s_best_worths ["fares", "weights", "seats"] (spWorths K CW))
    (G_protection : FnDo P w K mg base 1 "protection" s_protection ["worth", "fare"] (spProt CW)) : FnDo P w K mg base 5 "best_kept" s_best_kept ["fares", "weights", "seats"] (spBestKept K) := by
  refine F.doIt sc_best_kept (fun vs H Q E h => ?_) (fun f cdv A outer s H vs Q E hr h => ?_)
  · obtain ⟨fa, wa, seats, cs, rfl, _⟩ := h
    rfl
  · obtain ⟨fa, wa, seats, cs, rfl, hf, ⟨was, hwa, hwl, hws⟩, hseats, hcl, hcs, q⟩ := h
    have hwl : was.length = cs.length := by rw [hwl, List.length_map]
    refine ⟨_, (pss_cons (ps_set (i := 3) sc_best_kept.nd rfl (by first | exact Or.inl rfl | exact Or.inr rfl) (pe_callO G_best_worths (hr.mono (by decide)) rfl (pa_cons (pe_slice (sl_listK K rfl) (pv 0) po_none (po_some (pe_un un_neg pe_int))) (pa_cons (pe_slice (sl_listK K rfl) (pv 1) po_none (po_some (pe_un un_neg pe_int))) (pa_cons (pv 2) pa_nil))))) (pss_one (ps_ret (pe_lc rfl sc_best_kept.nd (pi_zipK K rfl rfl T.no_zip (pa_cons (pv 3) (pa_cons (pe_slice (sl_listK K rfl) (pv 0) (po_some pe_int) po_none) pa_nil))) (blkOk_by (own := [("worth", 4), ("fare", 5)]) rfl) (fun _ _ _ _ _ => (pg_tupK K (n := 2) rfl rfl (pgs_cons (pg_name (i := 4) sc_best_kept.nd rfl (by first | exact Or.inl rfl | exact Or.inr rfl)) (pgs_cons (pg_name (i := 5) sc_best_kept.nd rfl (by first | exact Or.inl rfl | exact Or.inr rfl)) pgs_nil)))) (fun _ _ _ _ _ => pts_nil) (fun _ _ _ _ _ => (pe_callO G_protection (hr.mono (by decide)) rfl (pa_cons (pv 4) (pa_cons (pv 5) pa_nil)))))))), ?_⟩
    refine ⟨_, rfl, _, rfl, _, rfl, fa, _, rfl, hf, fun f1 hf1 => ?_⟩
    have s1 : Same H (upd H f1 (.lst (cutV (NL (cs.map (·.fare))) none (some (-1))))) := Same.upd_new hf1
    refine ⟨_, rfl, _, rfl, _, rfl, wa, _, rfl, s1.seq hwa, fun w1 hw1 => ?_⟩
    have s2 : Same _ (upd (upd H f1 (.lst (cutV (NL (cs.map (·.fare))) none (some (-1))))) w1 (.lst (cutV (was.map V.ref) none (some (-1))))) := Same.upd_new hw1
    have s12 := s1.trans s2
    refine ⟨_, rfl, f1, w1, seats, cs.take (cs.length - 1), rfl, SqL.of ?_, ⟨was.take (cs.length - 1), SqL.of ?_, ?_, ?_⟩, hseats, ?_, ?_, fun H3 l3 s3 hW => ?_⟩
    · rw [s2 _ _ upd_same, cut_m1, NL_len, List.length_map, NL_take, List.map_take]
    · rw [upd_same, cut_m1, List.length_map, hwl, List.map_take]
    · rw [List.length_map, List.length_take, List.length_take, hwl]
    · intro j a ws ea ew
      rw [List.map_take] at ew
      exact s12.seq (hws j a ws ((take_get ea).1) (take_get ew).1)
    · rw [List.length_take]
      omega
    · exact fun c hc => hcs c (List.mem_of_mem_take hc)
    · obtain ⟨as, hl3, hal, hat⟩ := hW
      rw [levels_len, List.length_take] at hal
      have s13 := s12.trans s3
      refine ⟨_, rfl, _, rfl, _, rfl, fa, _, rfl, s13.seq hf, fun f4 hf4 => ?_⟩
      have s4 : Same H3 (upd H3 f4 (.lst (cutV (NL (cs.map (·.fare))) (some 1) none))) := Same.upd_new hf4
      have ef4 : cutV (NL (cs.map (·.fare))) (some 1) none = NL ((cs.map (·.fare)).drop 1) := by
        rw [← NL_drop]
        exact cut_from (n := 1)
      have hmin : min (as.map V.ref).length (NL ((cs.map (·.fare)).drop 1)).length = cs.length - 1 := by
        rw [List.length_map, hal, NL_len, List.length_drop, List.length_map]
        omega
      refine ⟨l3, f4, as.map V.ref, NL ((cs.map (·.fare)).drop 1), rfl, SqL.of (s4 _ _ hl3), SqL.of (by rw [upd_same, ef4]), ?_⟩
      intro D hD
      refine lc_zip (K := K) (a := l3) (b := f4) (xs := as.map V.ref) (ys := NL ((cs.map (·.fare)).drop 1)) (fun i Hi => Same (upd H3 f4 (.lst (cutV (NL (cs.map (·.fare))) (some 1) none))) Hi ∧ Hi D = some (.lst (NL ((prots seats cs).take i))))
        ⟨Same.upd_new hD, upd_same⟩ (fun i Hi _ ⟨s5, _⟩ => ⟨SqL.of (s5 _ _ (s4 _ _ hl3)), SqL.of (by rw [s5 _ _ upd_same, ef4])⟩) ?_ ?_
      · rintro i x y Tt Hi hx hy hT ⟨s5, hDi⟩
        obtain ⟨a, ha, rfl⟩ : ∃ a, as[i]? = some a ∧ x = V.ref a := by
          rw [List.getElem?_map] at hx
          cases e : as[i]? with
          | none => rw [e] at hx; cases hx
          | some a => rw [e] at hx; exact ⟨a, rfl, (Option.some.inj hx).symm⟩
        obtain ⟨fr, hfr, rfl⟩ := NL_get hy
        have hi : i < cs.length - 1 := by
          have := (List.getElem?_eq_some_iff.mp ha).1
          omega
        rw [List.getElem?_drop, List.getElem?_map, Nat.add_comm] at hfr
        obtain ⟨c, hc, hcf⟩ : ∃ c, cs[i + 1]? = some c ∧ c.fare = fr := by
          cases e : cs[i + 1]? with
          | none => rw [e] at hfr; cases hfr
          | some c => rw [e] at hfr; exact ⟨c, rfl, Option.some.inj hfr⟩
        subst hcf
        have ok : COk c := hcs c (List.mem_of_getElem? hc)
        obtain ⟨t, ht⟩ : ∃ t, (levels seats 1 (zeros seats) cs)[i]? = some t := ⟨_, List.getElem?_eq_getElem (by rw [levels_len]; omega)⟩
        have htl : t.2.length = seats + 1 := levels_mem_len _ _ _ _ _ (List.mem_of_getElem? ht)
        have hwa' : WorthAt CW H3 a t := hat i a t ha (by rw [levels_take, List.getElem?_take, if_pos hi]; exact ht)
        have s6 : Same Hi (upd Hi Tt (.tup [V.ref a, nv c.fare])) := Same.upd_new hT
        refine ⟨Tt, _, rfl, .inl (.inl upd_same), rfl, _, _, rfl, _, _, rfl, rfl, rfl, tYes_i ?_⟩
        refine ⟨_, rfl, _, rfl, a, c.fare, t, rfl, hwa'.same ((s4.trans s5).trans s6), ok.fare, by omega, by omega, ?_⟩
        refine ⟨_, s6 _ _ hDi, ?_, ?_, ?_⟩
        · rw [NL_len, List.length_take]
          show min i _ < 16777216
          omega
        · exact fun b o e => by rw [upd_ne (ne_of_none e hD)]; exact s6 _ _ (s5 _ _ e)
        · rw [upd_same]
          have ep : (prots seats cs)[i]? = some (pbest c.fare t.1 t.2 t.2.length) := by
            unfold prots
            rw [List.getElem?_map, List.getElem?_range hi]
            show some (protectionIn _ seats ((cs[i + 1]?.map (·.fare)).getD 0) i) = _
            rw [hc, protectionIn_eq ht, htl]
            rfl
          rw [take_snoc ep]
          unfold NL
          rw [List.map_append]
          rfl
      · rintro Hi ⟨s5, hDi⟩
        have epl : (prots seats cs).length = cs.length - 1 := by unfold prots; simp
        rw [hmin, ← epl, List.take_length] at hDi
        refine q Hi D (s13.trans (s4.trans s5)) ?_ hDi
        exact (s13.trans s4).free hD
end
end Ks
namespace Ks
open Vbahal (Class State withClass levels bestOf greatest zeros meanWith takes against protectionIn)
structure CGood (c : Class) : Prop where
  fare : c.fare ≤ 1000000
  len1 : 1 ≤ c.weights.length
  len : c.weights.length ≤ 21
  le : ∀ z ∈ c.weights, z ≤ 1000
  pos : 0 < c.weights.sum
structure StOk (st : State) : Prop where
  seats : st.seats ≤ 60
  len : st.classes.length ≤ 8
  cls : ∀ c ∈ st.classes, CGood c
  plen : st.periods.length ≤ 20
  per : ∀ w ∈ st.periods, w.length = st.classes.length + 1 ∧ (∀ z ∈ w, z ≤ 1000) ∧ 0 < w.sum
theorem CGood.ok {c : Class} (h : CGood c) : COk c := ⟨h.fare, by have := h.len; omega, h.le⟩
theorem CGood.sum {c : Class} (h : CGood c) : c.weights.sum ≤ 21000 := by
  have h1 := sum_le c.weights h.le
  have h2 := h.len
  omega
theorem getD_take {l : List Nat} {n k : Nat} (h : k < n) : (l.take n).getD k 0 = l.getD k 0 := by
  rw [List.getD_eq_getElem?_getD, List.getD_eq_getElem?_getD, List.getElem?_take, if_pos h]
theorem bestOf_take {fare scale : Nat} {rest : List Nat} {n x d : Nat} (h : x < n) : bestOf fare scale (rest.take n) x d = bestOf fare scale rest x d := by
  unfold bestOf
  congr 1
  refine List.map_congr_left fun u hu => ?_
  rw [getD_take (by omega)]
theorem withClass_take {S x : Nat} (hx : x ≤ S) (c : Class) (q : Nat) (u : List Nat) : withClass x c q (u.take (x + 1)) = (withClass S c q u).take (x + 1) := by
  unfold withClass
  rw [← List.map_take, List.take_range, Nat.min_eq_left (by omega)]
  refine List.map_congr_left fun y hy => ?_
  rw [List.mem_range] at hy
  congr 1
  refine List.map_congr_left fun p _ => ?_
  rw [bestOf_take hy]
theorem levels_cut {S x : Nat} (hx : x ≤ S) : ∀ (l : List Class) (q : Nat) (u : List Nat), levels x q (u.take (x + 1)) l = (levels S q u l).map fun t => (t.1, t.2.take (x + 1))
  | [], _, _ => rfl
  | c :: l, q, u => by
    show (q * c.weights.sum, withClass x c q (u.take (x + 1))) :: levels x (q * c.weights.sum) (withClass x c q (u.take (x + 1))) l = _
    rw [withClass_take hx, levels_cut hx l]
    rfl
theorem zeros_take {S x : Nat} (hx : x ≤ S) : (zeros S).take (x + 1) = zeros x := by
  unfold zeros
  rw [List.take_replicate, Nat.min_eq_left (by omega)]
theorem levels_at {S x i : Nat} (hx : x ≤ S) {l : List Class} {t : Nat × List Nat} (h : (levels S 1 (zeros S) l)[i]? = some t) : (levels x 1 (zeros x) l)[i]? = some (t.1, t.2.take (x + 1)) := by
  rw [← zeros_take hx, levels_cut hx, List.getElem?_map, h]
  rfl
theorem greatest_mem_le : ∀ {l : List Nat} {a : Nat}, a ∈ l → a ≤ greatest l
  | b :: l, a, h => by
    show a ≤ max b (greatest l)
    rcases List.mem_cons.mp h with e | e
    · omega
    · have := greatest_mem_le e
      omega
theorem greatest_mono {l l' : List Nat} (h : ∀ a ∈ l, ∃ b ∈ l', a ≤ b) : greatest l ≤ greatest l' := by
  refine greatest_le l _ fun a ha => ?_
  obtain ⟨b, hb, hab⟩ := h a ha
  exact Nat.le_trans hab (greatest_mem_le hb)
theorem sum_map_le {α : Type} {f g : α → Nat} : ∀ (l : List α), (∀ a ∈ l, f a ≤ g a) → (l.map f).sum ≤ (l.map g).sum
  | [], _ => by simp
  | a :: l, h => by
    have h1 := h a (by simp)
    have h2 := sum_map_le l fun b hb => h b (by simp [hb])
    rw [List.map_cons, List.map_cons, List.sum_cons, List.sum_cons]
    omega
def Mono (S : Nat) (u : List Nat) : Prop := ∀ k, k < S → u.getD k 0 ≤ u.getD (k + 1) 0
theorem bestOf_mono {S fare scale : Nat} {rest : List Nat} (h : Mono S rest) {x d : Nat} (hx : x < S) : bestOf fare scale rest x d ≤ bestOf fare scale rest (x + 1) d := by
  refine greatest_mono fun a ha => ?_
  obtain ⟨u, hu, rfl⟩ := List.mem_map.mp ha
  rw [List.mem_range] at hu
  refine ⟨_, List.mem_map.mpr ⟨u, by rw [List.mem_range]; omega, rfl⟩, ?_⟩
  have := h (x - u) (by omega)
  have e : x + 1 - u = x - u + 1 := by omega
  rw [e]
  omega
theorem withClass_getD {S : Nat} {c : Class} {q : Nat} {u : List Nat} {x : Nat} (hx : x ≤ S) : (withClass S c q u).getD x 0 = (c.weights.zipIdx.map fun p => p.1 * bestOf c.fare q u x p.2).sum := by
  unfold withClass
  rw [List.getD_eq_getElem?_getD, List.getElem?_map, List.getElem?_range (by omega)]
  rfl
theorem withClass_mono {S : Nat} {c : Class} {q : Nat} {u : List Nat} (h : Mono S u) : Mono S (withClass S c q u) := fun k hk => by
  rw [withClass_getD (by omega), withClass_getD (by omega)]
  exact sum_map_le _ fun p _ => Nat.mul_le_mul_left _ (bestOf_mono h hk)
theorem levels_mono (S : Nat) : ∀ (l : List Class) (q : Nat) (u : List Nat), Mono S u → ∀ t ∈ levels S q u l, Mono S t.2
  | [], _, _, _, t, h => by cases h
  | c :: l, q, u, hu, t, h => by
    have h : t ∈ (stepL S (q, u) c) :: levels S (q * c.weights.sum) (withClass S c q u) l := h
    rcases List.mem_cons.mp h with e | e
    · rw [e]
      exact withClass_mono hu
    · exact levels_mono S l _ _ (withClass_mono hu) t e
theorem zeros_getD (S k : Nat) : (zeros S).getD k 0 = 0 := by
  unfold zeros
  rw [List.getD_eq_getElem?_getD]
  by_cases h : k < S + 1
  · rw [List.getElem?_replicate, if_pos h]
    rfl
  · rw [List.getElem?_replicate, if_neg h]
    rfl
theorem zeros_mono (S : Nat) : Mono S (zeros S) := fun k _ => by rw [zeros_getD, zeros_getD]; exact Nat.le_refl _
theorem levels_unit (S : Nat) : ∀ (l : List Class) (q : Nat) (u : List Nat), 0 < q → (∀ c ∈ l, CGood c) → ∀ t ∈ levels S q u l, 0 < t.1 ∧ t.1 ≤ q * 21000 ^ l.length
  | [], _, _, _, _, t, h => by cases h
  | c :: l, q, u, hq, hc, t, h => by
    have h : t ∈ (stepL S (q, u) c) :: levels S (q * c.weights.sum) (withClass S c q u) l := h
    have g := hc c (by simp)
    have h1 : 0 < q * c.weights.sum := Nat.mul_pos hq g.pos
    have h2 : q * c.weights.sum ≤ q * 21000 := Nat.mul_le_mul_left _ g.sum
    have h3 : (21000 : Nat) ^ (l.length + 1) = 21000 ^ l.length * 21000 := Nat.pow_succ ..
    have h4 : 0 < (21000 : Nat) ^ l.length := Nat.pow_pos (by decide)
    rcases List.mem_cons.mp h with e | e
    · rw [e]
      refine ⟨h1, ?_⟩
      show q * c.weights.sum ≤ q * 21000 ^ (l.length + 1)
      refine Nat.le_trans h2 (Nat.mul_le_mul_left _ ?_)
      rw [h3]
      exact Nat.le_mul_of_pos_left _ h4
    · obtain ⟨a, b⟩ := levels_unit S l _ _ h1 (fun d hd => hc d (by simp [hd])) t e
      refine ⟨a, Nat.le_trans b ?_⟩
      show q * c.weights.sum * 21000 ^ l.length ≤ q * 21000 ^ (l.length + 1)
      rw [h3, Nat.mul_comm (21000 ^ l.length) 21000, ← Nat.mul_assoc]
      exact Nat.mul_le_mul_right _ h2
theorem unit_small {t n : Nat} (h : t ≤ 21000 ^ n) (hn : n ≤ 8) : (t : Int) < 2 ^ 9000 := by
  have h1 : (21000 : Nat) ^ n ≤ 21000 ^ 8 := Nat.pow_le_pow_right (by decide) hn
  have h2 : t ≤ 21000 ^ 8 := Nat.le_trans h h1
  exact Int.lt_of_le_of_lt (Int.ofNat_le.mpr h2) (by decide +kernel)
end Ks
namespace Ks
open PySem PySem.Spec PyProof.Rows L2
open Vbahal (Class State withClass levels bestOf greatest zeros meanWith takes against protectionIn)
section
variable {P : Program} {w : World} {K : PySem.W.Frag} {mg : Str → Option Value} {base : Heap} {CW CC CP : Addr}
def PlanR (K : PySem.W.Frag) (CP : Addr) (H : Hp) (p : Addr) (st : State) : Prop :=
  ∃ (dx : Addr) (fs : List (Str × V)) (fa wa : Addr), H p = some (.ins CP dx fs) ∧ fs.lookup ("seats" : Str) = some (nv st.seats) ∧ fs.lookup ("fares" : Str) = some (.ref fa) ∧ fs.lookup ("weights" : Str) = some (.ref wa) ∧
    SqL K H fa (NL (st.classes.map (·.fare))) ∧ WsAt K H wa (st.classes.map (·.weights))
theorem PlanR.same {H H' : Hp} {p : Addr} {st : State} (h : PlanR K CP H p st) (s : Same H H') : PlanR K CP H' p st := by
  obtain ⟨dx, fs, fa, wa, h1, h2, h3, h4, h5, h6⟩ := h
  exact ⟨dx, fs, fa, wa, s _ _ h1, h2, h3, h4, s.seq h5, h6.same s⟩
def RowsH (H : Hp) (ro : Addr) (rows : List (List Nat)) : Prop :=
  ∃ as : List Addr, H ro = some (.lst (as.map V.ref)) ∧ as.length = rows.length ∧ ∀ (j : Nat) (a : Addr) (r : List Nat), as[j]? = some a → rows[j]? = some r → H a = some (.lst (NL r))
def spRO (K : PySem.W.Frag) (CP : Addr) (C : State → List Nat → List (List Nat) → Vbahal.Call → Prop) : Sp := fun vs H Q _ => ∃ (p nu ro : Addr) (st : State) (ns : List Nat) (rows : List (List Nat)) (c : Vbahal.Call), vs = [.ref p, .ref nu, .ref ro] ∧
  PlanR K CP H p st ∧ StOk st ∧ 0 < st.classes.length ∧ SqL K H nu (NL ns) ∧ RowsH H ro rows ∧ C st ns rows c ∧
  ∀ (H' : Hp) (l : Addr), Same H H' → H l = none → H' l = some (.lst ((Vbahal.step st c).2.map V.int)) → Q (.ref l) H'
theorem has_ok {st : State} {i : Nat} {t : State × List Int} (h : i < st.classes.length) : Vbahal.has st i t = t := by
  unfold Vbahal.has
  have e : st.classes.isEmpty = false := by
    cases q : st.classes with
    | nil => rw [q] at h; cases h
    | cons a l => rfl
  rw [e, if_neg Bool.false_ne_true, if_neg (by omega)]
theorem ok_NL (l : List Nat) : (Vbahal.ok l).map V.int = NL (0 :: l) := by
  unfold Vbahal.ok Vbahal.ints NL
  rw [List.map_cons, List.map_map, List.map_cons]
  rfl
def CValue (st : State) (ns : List Nat) (rows : List (List Nat)) (c : Vbahal.Call) : Prop := ∃ i x, ns = [i, x] ∧ i < st.classes.length ∧ c = .value i x
def CMarginal (st : State) (ns : List Nat) (rows : List (List Nat)) (c : Vbahal.Call) : Prop := ∃ i x, ns = [i, x] ∧ i < st.classes.length ∧ 1 ≤ x ∧ c = .marginal i x
def spWorthTo (K : PySem.W.Frag) (CW CP : Addr) : Sp := fun vs H Q _ => ∃ (p : Addr) (st : State) (i x : Nat), vs = [.ref p, nv i, nv x] ∧ PlanR K CP H p st ∧ StOk st ∧ i < st.classes.length ∧ x ≤ 60 ∧
  ∀ (H' : Hp) (a : Addr) (t : Nat × List Nat), Same H H' → (levels x 1 (zeros x) st.classes)[i]? = some t → WorthAt CW H' a t → Q (.ref a) H'
theorem ok_worth_to (F : FnIn K mg "worth_to" s_worth_to ["plan", "i", "x"]) (T : Txt K mg CW CC CP) (G_best_worths : FnDo P w K mg base 4 "best_worths" s_best_worths ["fares", "weights", "seats"] (spWorths K CW)) :
    FnDo P w K mg base 5 "worth_to" s_worth_to ["plan", "i", "x"] (spWorthTo K CW CP) := by
  refine F.doIt sc_worth_to (fun vs H Q E h => ?_) (fun f cdv A outer s H vs Q E hr h => ?_)
  · obtain ⟨p, st, i, x, rfl, _⟩ := h
    rfl
  · obtain ⟨p, st, i, x, rfl, ⟨dx, fs, fa, wa, h1, h2, h3, h4, h5, was, h6, h7, h8⟩, ok, hi, hx, q⟩ := h
    have hwl : was.length = st.classes.length := by rw [h7, List.length_map]
    refine ⟨_, (pss_cons (ps_set (i := 3) sc_worth_to.nd rfl (by first | exact Or.inl rfl | exact Or.inr rfl) (pe_callO G_best_worths (hr.mono (by decide)) rfl (pa_cons (pe_slice (sl_listK K rfl) (pe_fldK K rfl (pv 0) rfl) po_none (po_some (pe_op op_add (pv 1) pe_int))) (pa_cons (pe_slice (sl_listK K rfl) (pe_fldK K rfl (pv 0) rfl) po_none (po_some (pe_op op_add (pv 1) pe_int))) (pa_cons (pv 2) pa_nil))))) (pss_one (ps_ret (pe_ix (ix_listK K rfl) (pv 3) (pv 1) (fun _ _ => rfl))))), ?_⟩
    refine ⟨_, rfl, p, CP, dx, fs, _, rfl, h1, T.cP, T.p_fares, h3, _, rfl, _, _, rfl, rfl, _, rfl, fa, _, rfl, h5, fun f1 hf1 => ?_⟩
    have s1 : Same H (upd H f1 (.lst (cutV (NL (st.classes.map (·.fare))) none (some ((i : Int) + 1))))) := Same.upd_new hf1
    refine ⟨_, rfl, p, CP, dx, fs, _, rfl, s1 _ _ h1, T.cP, T.p_weights, h4, _, rfl, _, _, rfl, rfl, _, rfl, wa, _, rfl, s1.seq h6, fun w1 hw1 => ?_⟩
    have s2 : Same _ (upd (upd H f1 (.lst (cutV (NL (st.classes.map (·.fare))) none (some ((i : Int) + 1))))) w1 (.lst (cutV (was.map V.ref) none (some ((i : Int) + 1))))) := Same.upd_new hw1
    have s12 := s1.trans s2
    have ei : ((i : Int) + 1) = ((i + 1 : Nat) : Int) := by omega
    refine ⟨_, rfl, f1, w1, x, st.classes.take (i + 1), rfl, SqL.of ?_, ⟨was.take (i + 1), SqL.of ?_, ?_, ?_⟩, hx, ?_, ?_, fun H3 l3 s3 hW => ?_⟩
    · rw [s2 _ _ upd_same, ei, cut_to, NL_take, List.map_take]
    · rw [upd_same, ei, cut_to, List.map_take]
    · rw [List.length_map, List.length_take, List.length_take, hwl]
    · intro j a ws ea ew
      rw [List.map_take] at ew
      exact s12.seq (h8 j a ws (take_get ea).1 (take_get ew).1)
    · have := ok.len
      rw [List.length_take]
      omega
    · exact fun c hc => (ok.cls c (List.mem_of_mem_take hc)).ok
    · obtain ⟨as, hl3, hal, hat⟩ := hW
      rw [levels_len, List.length_take] at hal
      obtain ⟨a, ha⟩ : ∃ a, as[i]? = some a := ⟨_, List.getElem?_eq_getElem (by omega)⟩
      obtain ⟨t, ht⟩ : ∃ t, (levels x 1 (zeros x) st.classes)[i]? = some t := ⟨_, List.getElem?_eq_getElem (by rw [levels_len]; exact hi)⟩
      refine ⟨_, rfl, _, rfl, l3, _, _, V.ref a, rfl, rfl, SqL.of hl3, atI_nat (by rw [List.getElem?_map, ha]; rfl), ?_⟩
      exact q H3 a t (s12.trans s3) ht (hat i a t ha (by rw [levels_take, List.getElem?_take, if_pos (by omega)]; exact ht))
theorem tbl_at {st : State} (ok : StOk st) {i x : Nat} (hi : i < st.classes.length) (hx : x ≤ st.seats) {t : Nat × List Nat} (ht : (levels x 1 (zeros x) st.classes)[i]? = some t) :
    t.1 = Vbahal.unit st i ∧ (∀ k, k ≤ x → t.2.getD k 0 = Vbahal.worthOf st i k) ∧ t.2.length = x + 1 ∧ 0 < t.1 ∧ (t.1 : Int) < 2 ^ 9000 ∧ Mono x t.2 := by
  obtain ⟨t', ht'⟩ : ∃ t', (levels st.seats 1 (zeros st.seats) st.classes)[i]? = some t' := ⟨_, List.getElem?_eq_getElem (by rw [levels_len]; exact hi)⟩
  have e := levels_at hx ht'
  rw [ht] at e
  cases e
  have hm := List.mem_of_getElem? ht
  obtain ⟨u1, u2⟩ := levels_unit x st.classes 1 (zeros x) (by decide) ok.cls _ hm
  rw [Nat.one_mul] at u2
  refine ⟨?_, fun k hk => ?_, levels_mem_len _ _ _ _ _ hm, u1, unit_small u2 ok.len, levels_mono x st.classes 1 (zeros x) (zeros_mono x) _ hm⟩
  · unfold Vbahal.unit Vbahal.unitIn Vbahal.table
    rw [ht']
    rfl
  · show (t'.2.take (x + 1)).getD k 0 = _
    rw [getD_take (by omega)]
    unfold Vbahal.worthOf Vbahal.worthIn Vbahal.table
    rw [ht']
    rfl
theorem ok_value (F : FnIn K mg "value" s_value ["plan", "numbers", "rows"]) (T : Txt K mg CW CC CP) (G_worth_to : FnDo P w K mg base 5 "worth_to" s_worth_to ["plan", "i", "x"] (spWorthTo K CW CP))
    (G_lowest_terms : FnDo P w K mg base 2 "lowest_terms" s_lowest_terms ["above", "below"] spLow) : FnDo P w K mg base 6 "value" s_value ["plan", "numbers", "rows"] (spRO K CP CValue) := by
  refine F.doIt sc_value (fun vs H Q E h => ?_) (fun f cdv A outer s H vs Q E hr h => ?_)
  · obtain ⟨p, nu, ro, st, ns, rows, c, rfl, _⟩ := h
    rfl
  · obtain ⟨p, nu, ro, st, ns, rows, c, rfl, hp, ok, hk, hnu, hro, ⟨i, x, rfl, hi, rfl⟩, q⟩ := h
    refine ⟨_, (pss_cons (ps_set (i := 3) sc_value.nd rfl (by first | exact Or.inl rfl | exact Or.inr rfl) (pe_ix (ix_listK K rfl) (pv 1) pe_int (fun _ _ => rfl))) (pss_cons (ps_if (pt_cmpR op_gt (pv 3) (pe_fldK K rfl (pv 0) rfl) (nomark _)) (pss_one (ps_ret (pe_lst (pa_cons (pe_un un_neg pe_int) pa_nil)))) pss_nil) (pss_cons (ps_set (i := 4) sc_value.nd rfl (by first | exact Or.inl rfl | exact Or.inr rfl) (pe_callO G_worth_to (hr.mono (by decide)) rfl (pa_cons (pv 0) (pa_cons (pe_ix (ix_listK K rfl) (pv 1) pe_int (fun _ _ => rfl)) (pa_cons (pv 3) pa_nil))))) (pss_one (ps_ret (pe_op op_cat (pe_lst (pa_cons pe_int pa_nil)) (pe_callO G_lowest_terms (hr.mono (by decide)) rfl (pa_cons (pe_ix (ix_listK K rfl) (pe_fldK K rfl (pv 4) rfl) (pv 3) (fun _ _ => rfl)) (pa_cons (pe_fldK K rfl (pv 4) rfl) pa_nil))))))))), ?_⟩
    obtain ⟨dx, fs, fa, wa, h1, h2, h3, h4, h5, h6⟩ := id hp
    have hstep : (Vbahal.step st (.value i x)).2 = if st.seats < x then [-8] else Vbahal.ok (Vbahal.frac (Vbahal.worthOf st i x) (Vbahal.unit st i)) := by
      show (Vbahal.has st i _).2 = _
      rw [has_ok hi]
      split <;> rfl
    rw [hstep] at q
    refine ⟨_, rfl, nu, _, _, _, rfl, rfl, hnu, NL_at (l := [i, x]) (i := 1) rfl, ?_⟩
    refine ⟨_, rfl, _, rfl, p, CP, dx, fs, _, rfl, h1, T.cP, T.p_seats, h2, _, _, rfl, rfl, _, rfl, ?_⟩
    refine ite2 (fun hc => ?_) (fun hc => ?_)
    · have hc : st.seats < x := by
        have := of_decide_eq_true hc
        omega
      rw [if_pos hc] at q
      refine ⟨_, rfl, (by show 1 ≤ sizeLine; decide), fun l hl => ?_⟩
      exact q _ l (Same.upd_new hl) hl upd_same
    · have hc : ¬ st.seats < x := fun h => hc (decide_eq_true (by omega))
      rw [if_neg hc, ok_NL] at q
      have hx60 : x ≤ 60 := by have := ok.seats; omega
      refine ⟨_, rfl, _, rfl, nu, _, _, _, rfl, rfl, hnu, NL_at (l := [i, x]) (i := 0) rfl, _, rfl, p, st, i, x, rfl, hp, ok, hi, hx60, fun H1 a t s1 ht hW => ?_⟩
      obtain ⟨t1, t2, t3, t4, t5, t6⟩ := tbl_at ok hi (by omega) ht
      obtain ⟨la, ⟨dw, gs, g1, g2, g3⟩, g4⟩ := hW
      refine ⟨(by show 1 ≤ sizeLine; decide), fun l0 hl0 => ?_⟩
      have s2 : Same H1 (upd H1 l0 (.lst [V.int 0])) := Same.upd_new hl0
      refine ⟨_, rfl, a, CW, dw, gs, _, rfl, s2 _ _ g1, T.cW, T.w_above, g2, _, rfl, la, _, _, _, rfl, rfl, SqL.of (s2 _ _ g4), NL_getD (by omega), _, rfl, a, CW, dw, gs, _, rfl, s2 _ _ g1, T.cW, T.w_below, g3, ?_⟩
      refine ⟨t.2.getD x 0, t.1, rfl, t4, t5, fun H3 l3 s3 hn3 hl3 => ?_⟩
      refine ⟨l0, l3, _, _, rfl, rfl, s3 _ _ upd_same, hl3, (by show 3 ≤ sizeLine; decide), fun l4 hl4 => ?_⟩
      refine q _ l4 (((s1.trans s2).trans s3).trans (Same.upd_new hl4)) (((s1.trans s2).trans s3).free hl4) ?_
      rw [upd_same, t2 x (Nat.le_refl _), t1]
      rfl
theorem ok_marginal (F : FnIn K mg "marginal" s_marginal ["plan", "numbers", "rows"]) (T : Txt K mg CW CC CP) (G_worth_to : FnDo P w K mg base 5 "worth_to" s_worth_to ["plan", "i", "x"] (spWorthTo K CW CP))
    (G_lowest_terms : FnDo P w K mg base 2 "lowest_terms" s_lowest_terms ["above", "below"] spLow) : FnDo P w K mg base 6 "marginal" s_marginal ["plan", "numbers", "rows"] (spRO K CP CMarginal) := by
  refine F.doIt sc_marginal (fun vs H Q E h => ?_) (fun f cdv A outer s H vs Q E hr h => ?_)
  · obtain ⟨p, nu, ro, st, ns, rows, c, rfl, _⟩ := h
    rfl
  · obtain ⟨p, nu, ro, st, ns, rows, c, rfl, hp, ok, hk, hnu, hro, ⟨i, x, rfl, hi, hx1, rfl⟩, q⟩ := h
    refine ⟨_, (pss_cons (ps_set (i := 3) sc_marginal.nd rfl (by first | exact Or.inl rfl | exact Or.inr rfl) (pe_ix (ix_listK K rfl) (pv 1) pe_int (fun _ _ => rfl))) (pss_cons (ps_if (pt_cmpR op_gt (pv 3) (pe_fldK K rfl (pv 0) rfl) (nomark _)) (pss_one (ps_ret (pe_lst (pa_cons (pe_un un_neg pe_int) pa_nil)))) pss_nil) (pss_cons (ps_set (i := 4) sc_marginal.nd rfl (by first | exact Or.inl rfl | exact Or.inr rfl) (pe_callO G_worth_to (hr.mono (by decide)) rfl (pa_cons (pv 0) (pa_cons (pe_ix (ix_listK K rfl) (pv 1) pe_int (fun _ _ => rfl)) (pa_cons (pv 3) pa_nil))))) (pss_one (ps_ret (pe_op op_cat (pe_lst (pa_cons pe_int pa_nil)) (pe_callO G_lowest_terms (hr.mono (by decide)) rfl (pa_cons (pe_op op_sub (pe_ix (ix_listK K rfl) (pe_fldK K rfl (pv 4) rfl) (pv 3) (fun _ _ => rfl)) (pe_ix (ix_listK K rfl) (pe_fldK K rfl (pv 4) rfl) (pe_op op_sub (pv 3) pe_int) (fun _ _ => rfl))) (pa_cons (pe_fldK K rfl (pv 4) rfl) pa_nil))))))))), ?_⟩
    obtain ⟨dx, fs, fa, wa, h1, h2, h3, h4, h5, h6⟩ := id hp
    have hstep : (Vbahal.step st (.marginal i x)).2 = if st.seats < x then [-8] else Vbahal.ok (Vbahal.frac (Vbahal.marginal st i x) (Vbahal.unit st i)) := by
      show (Vbahal.has st i _).2 = _
      rw [has_ok hi]
      split <;> rfl
    rw [hstep] at q
    refine ⟨_, rfl, nu, _, _, _, rfl, rfl, hnu, NL_at (l := [i, x]) (i := 1) rfl, ?_⟩
    refine ⟨_, rfl, _, rfl, p, CP, dx, fs, _, rfl, h1, T.cP, T.p_seats, h2, _, _, rfl, rfl, _, rfl, ?_⟩
    refine ite2 (fun hc => ?_) (fun hc => ?_)
    · have hc : st.seats < x := by
        have := of_decide_eq_true hc
        omega
      rw [if_pos hc] at q
      refine ⟨_, rfl, (by show 1 ≤ sizeLine; decide), fun l hl => ?_⟩
      exact q _ l (Same.upd_new hl) hl upd_same
    · have hc : ¬ st.seats < x := fun h => hc (decide_eq_true (by omega))
      rw [if_neg hc, ok_NL] at q
      have hx60 : x ≤ 60 := by have := ok.seats; omega
      refine ⟨_, rfl, _, rfl, nu, _, _, _, rfl, rfl, hnu, NL_at (l := [i, x]) (i := 0) rfl, _, rfl, p, st, i, x, rfl, hp, ok, hi, hx60, fun H1 a t s1 ht hW => ?_⟩
      obtain ⟨t1, t2, t3, t4, t5, t6⟩ := tbl_at ok hi (by omega) ht
      obtain ⟨la, ⟨dw, gs, g1, g2, g3⟩, g4⟩ := hW
      refine ⟨(by show 1 ≤ sizeLine; decide), fun l0 hl0 => ?_⟩
      have s2 : Same H1 (upd H1 l0 (.lst [V.int 0])) := Same.upd_new hl0
      have a2 : atI (NL t.2) ((x : Int) - 1) = some (nv (t.2.getD (x - 1) 0)) := at_sub (i := 1) hx1 (by omega)
      refine ⟨_, rfl, a, CW, dw, gs, _, rfl, s2 _ _ g1, T.cW, T.w_above, g2, _, rfl, la, _, _, _, rfl, rfl, SqL.of (s2 _ _ g4), NL_getD (by omega), _, rfl, a, CW, dw, gs, _, rfl, s2 _ _ g1, T.cW, T.w_above, g2, _, rfl, _, _, rfl, rfl, la, _, _, _, rfl, rfl, SqL.of (s2 _ _ g4), a2, _, _, rfl, rfl,
        _, rfl, a, CW, dw, gs, _, rfl, s2 _ _ g1, T.cW, T.w_below, g3, ?_⟩
      have hm : t.2.getD (x - 1) 0 ≤ t.2.getD x 0 := by
        have := t6 (x - 1) (by omega)
        rw [Nat.sub_add_cancel hx1] at this
        exact this
      refine ⟨t.2.getD x 0 - t.2.getD (x - 1) 0, t.1, ?_, t4, t5, fun H3 l3 s3 hn3 hl3 => ?_⟩
      · have e : ((t.2.getD x 0 : Nat) : Int) - ((t.2.getD (x - 1) 0 : Nat) : Int) = ((t.2.getD x 0 - t.2.getD (x - 1) 0 : Nat) : Int) := by omega
        show [V.int (((t.2.getD x 0 : Nat) : Int) - ((t.2.getD (x - 1) 0 : Nat) : Int)), nv t.1] = _
        rw [e]
      refine ⟨l0, l3, _, _, rfl, rfl, s3 _ _ upd_same, hl3, (by show 3 ≤ sizeLine; decide), fun l4 hl4 => ?_⟩
      refine q _ l4 (((s1.trans s2).trans s3).trans (Same.upd_new hl4)) (((s1.trans s2).trans s3).free hl4) ?_
      rw [upd_same, t2 x (Nat.le_refl _), t2 (x - 1) (by omega), t1]
      rfl
end
end Ks
namespace Ks
open PySem PySem.Spec PyProof.Rows L2
open Vbahal (Class State withClass levels bestOf greatest zeros meanWith takes against protectionIn)
section
variable {P : Program} {w : World} {K : PySem.W.Frag} {mg : Str → Option Value} {base : Heap} {CW CC CP : Addr}
def CProtections (st : State) (ns : List Nat) (rows : List (List Nat)) (c : Vbahal.Call) : Prop := c = .protections
theorem prots_len (seats : Nat) (cs : List Class) : (prots seats cs).length = cs.length - 1 := by unfold prots; simp
theorem ok_protections (F : FnIn K mg "protections" s_protections ["plan", "numbers", "rows"]) (T : Txt K mg CW CC CP) (G_best_kept : FnDo P w K mg base 5 "best_kept" s_best_kept ["fares", "weights", "seats"] (spBestKept K)) :
    FnDo P w K mg base 6 "protections" s_protections ["plan", "numbers", "rows"] (spRO K CP CProtections) := by
  refine F.doIt sc_protections (fun vs H Q E h => ?_) (fun f cdv A outer s H vs Q E hr h => ?_)
  · obtain ⟨p, nu, ro, st, ns, rows, c, rfl, _⟩ := h
    rfl
  · obtain ⟨p, nu, ro, st, ns, rows, c, rfl, hp, ok, hk, hnu, hro, rfl, q⟩ := h
    refine ⟨_, (pss_one (ps_ret (pe_op op_cat (pe_lst (pa_cons pe_int pa_nil)) (pe_callO G_best_kept (hr.mono (by decide)) rfl (pa_cons (pe_fldK K rfl (pv 0) rfl) (pa_cons (pe_fldK K rfl (pv 0) rfl) (pa_cons (pe_fldK K rfl (pv 0) rfl) pa_nil))))))), ?_⟩
    obtain ⟨dx, fs, fa, wa, h1, h2, h3, h4, h5, h6⟩ := id hp
    have hstep : (Vbahal.step st .protections).2 = Vbahal.ok (prots st.seats st.classes) := by
      show (Vbahal.has st 0 _).2 = _
      rw [has_ok hk]
      rfl
    rw [hstep, ok_NL] at q
    refine ⟨(by show 1 ≤ sizeLine; decide), fun l0 hl0 => ?_⟩
    have s2 : Same H (upd H l0 (.lst [V.int 0])) := Same.upd_new hl0
    refine ⟨_, rfl, p, CP, dx, fs, _, rfl, s2 _ _ h1, T.cP, T.p_fares, h3, _, rfl, p, CP, dx, fs, _, rfl, s2 _ _ h1, T.cP, T.p_weights, h4, _, rfl, p, CP, dx, fs, _, rfl, s2 _ _ h1, T.cP, T.p_seats, h2, ?_⟩
    refine ⟨fa, wa, st.seats, st.classes, rfl, s2.seq h5, h6.same s2, ok.seats, by have := ok.len; omega, fun c hc => (ok.cls c hc).ok, fun H3 l3 s3 hn3 hl3 => ?_⟩
    refine ⟨l0, l3, _, _, rfl, rfl, s3 _ _ upd_same, hl3, ?_, fun l4 hl4 => ?_⟩
    · rw [NL_len, prots_len]
      have := ok.len
      show 1 + (st.classes.length - 1) ≤ 16777216
      omega
    refine q _ l4 ((s2.trans s3).trans (Same.upd_new hl4)) ((s2.trans s3).free hl4) ?_
    rw [upd_same]
    rfl
def spKeptFrom : Sp := fun vs H Q _ => ∃ (a : Addr) (p : List Nat), vs = [.ref a] ∧ H a = some (.lst (NL p)) ∧ p.length ≤ 1000 ∧ ∀ (H' : Hp) (l : Addr), Same H H' → H l = none → H' l = some (.lst (NL (0 :: p))) → Q (.ref l) H'
theorem ok_kept_from (F : FnIn K mg "kept_from" s_kept_from ["kept"]) (T : Txt K mg CW CC CP) : FnDo P w K mg base 1 "kept_from" s_kept_from ["kept"] spKeptFrom := by
  refine F.doIt sc_kept_from (fun vs H Q E h => ?_) (fun f cdv A outer s H vs Q E hr h => ?_)
  · obtain ⟨a, p, rfl, _⟩ := h
    rfl
  · obtain ⟨a, p, rfl, ha, hp, q⟩ := h
    refine ⟨_, (pss_one (ps_ret (pe_op op_cat (pe_lst (pa_cons pe_int pa_nil)) (pv 0)))), ?_⟩
    refine ⟨(by show 1 ≤ sizeLine; decide), fun l0 hl0 => ?_⟩
    have s2 : Same H (upd H l0 (.lst [V.int 0])) := Same.upd_new hl0
    refine ⟨_, rfl, l0, a, _, _, rfl, rfl, upd_same, s2 _ _ ha, ?_, fun l4 hl4 => ?_⟩
    · rw [NL_len]
      show 1 + p.length ≤ 16777216
      omega
    refine q _ l4 (s2.trans (Same.upd_new hl4)) (s2.free hl4) ?_
    rw [upd_same]
    rfl
def CDecide (st : State) (ns : List Nat) (rows : List (List Nat)) (c : Vbahal.Call) : Prop := ∃ i x n, ns = [i, x, n] ∧ i < st.classes.length ∧ c = .decide i x n
theorem takes_eq (p : List Nat) (i x d : Nat) : takes p i x d = min d (x - (0 :: p).getD i 0) := by
  unfold takes
  rw [against_cons]
theorem ok_decide (F : FnIn K mg "decide" s_decide ["plan", "numbers", "rows"]) (T : Txt K mg CW CC CP) (G_best_kept : FnDo P w K mg base 5 "best_kept" s_best_kept ["fares", "weights", "seats"] (spBestKept K))
    (G_kept_from : FnDo P w K mg base 1 "kept_from" s_kept_from ["kept"] spKeptFrom) (G_sold_of : FnDo P w K mg base 1 "sold_of" s_sold_of ["asked", "left", "kept"] spSold) :
    FnDo P w K mg base 6 "decide" s_decide ["plan", "numbers", "rows"] (spRO K CP CDecide) := by
  refine F.doIt sc_decide (fun vs H Q E h => ?_) (fun f cdv A outer s H vs Q E hr h => ?_)
  · obtain ⟨p, nu, ro, st, ns, rows, c, rfl, _⟩ := h
    rfl
  · obtain ⟨p, nu, ro, st, ns, rows, c, rfl, hp, ok, hk, hnu, hro, ⟨i, x, n, rfl, hi, rfl⟩, q⟩ := h
    refine ⟨_, (pss_cons (ps_set (i := 3) sc_decide.nd rfl (by first | exact Or.inl rfl | exact Or.inr rfl) (pe_ix (ix_listK K rfl) (pv 1) pe_int (fun _ _ => rfl))) (pss_cons (ps_set (i := 4) sc_decide.nd rfl (by first | exact Or.inl rfl | exact Or.inr rfl) (pe_ix (ix_listK K rfl) (pv 1) pe_int (fun _ _ => rfl))) (pss_cons (ps_if (pt_cmpR op_gt (pv 4) (pe_fldK K rfl (pv 0) rfl) (nomark _)) (pss_one (ps_ret (pe_lst (pa_cons (pe_un un_neg pe_int) pa_nil)))) pss_nil) (pss_cons (ps_set (i := 5) sc_decide.nd rfl (by first | exact Or.inl rfl | exact Or.inr rfl) (pe_callO G_kept_from (hr.mono (by decide)) rfl (pa_cons (pe_callO G_best_kept (hr.mono (by decide)) rfl (pa_cons (pe_fldK K rfl (pv 0) rfl) (pa_cons (pe_fldK K rfl (pv 0) rfl) (pa_cons (pe_fldK K rfl (pv 0) rfl) pa_nil)))) pa_nil))) (pss_one (ps_ret (pe_lst (pa_cons pe_int (pa_cons (pe_callO G_sold_of (hr.mono (by decide)) rfl (pa_cons (pe_ix (ix_listK K rfl) (pv 1) pe_int (fun _ _ => rfl)) (pa_cons (pv 4) (pa_cons (pe_ix (ix_listK K rfl) (pv 5) (pv 3) (fun _ _ => rfl)) pa_nil)))) pa_nil))))))))), ?_⟩
    obtain ⟨dx, fs, fa, wa, h1, h2, h3, h4, h5, h6⟩ := id hp
    have hstep : (Vbahal.step st (.decide i x n)).2 = if st.seats < x then [-8] else Vbahal.ok [takes (prots st.seats st.classes) i x n] := by
      show (Vbahal.has st i _).2 = _
      rw [has_ok hi]
      split <;> rfl
    rw [hstep] at q
    refine ⟨_, rfl, nu, _, _, _, rfl, rfl, hnu, NL_at (l := [i, x, n]) (i := 0) rfl, ?_⟩
    refine ⟨_, rfl, nu, _, _, _, rfl, rfl, hnu, NL_at (l := [i, x, n]) (i := 1) rfl, ?_⟩
    refine ⟨_, rfl, _, rfl, p, CP, dx, fs, _, rfl, h1, T.cP, T.p_seats, h2, _, _, rfl, rfl, _, rfl, ?_⟩
    refine ite2 (fun hc => ?_) (fun hc => ?_)
    · have hc : st.seats < x := by
        have := of_decide_eq_true hc
        omega
      rw [if_pos hc] at q
      refine ⟨_, rfl, (by show 1 ≤ sizeLine; decide), fun l hl => ?_⟩
      exact q _ l (Same.upd_new hl) hl upd_same
    · have hc : ¬ st.seats < x := fun h => hc (decide_eq_true (by omega))
      rw [if_neg hc, ok_NL] at q
      refine ⟨_, rfl, p, CP, dx, fs, _, rfl, h1, T.cP, T.p_fares, h3, _, rfl, p, CP, dx, fs, _, rfl, h1, T.cP, T.p_weights, h4, _, rfl, p, CP, dx, fs, _, rfl, h1, T.cP, T.p_seats, h2, ?_⟩
      refine ⟨fa, wa, st.seats, st.classes, rfl, h5, h6, ok.seats, by have := ok.len; omega, fun c hc => (ok.cls c hc).ok, fun H3 l3 s3 hn3 hl3 => ?_⟩
      refine ⟨l3, _, rfl, hl3, by rw [prots_len]; have := ok.len; omega, fun H4 l4 s4 hn4 hl4 => ?_⟩
      have s34 := s3.trans s4
      refine ⟨_, rfl, nu, _, _, _, rfl, rfl, s34.seq hnu, NL_at (l := [i, x, n]) (i := 2) rfl, _, rfl, _, rfl, _, rfl, l4, _, _, _, rfl, rfl, SqL.of hl4, NL_getD (i := i) (by rw [List.length_cons, prots_len]; omega), ?_⟩
      refine ⟨n, x, (0 :: prots st.seats st.classes).getD i 0, rfl, (by show 2 ≤ sizeLine; decide), fun l5 hl5 => ?_⟩
      refine q _ l5 (s34.trans (Same.upd_new hl5)) (s34.free hl5) ?_
      rw [upd_same, takes_eq]
      rfl
theorem sumNL {H : Hp} {a : Addr} {l : List Nat} {Q : VK} (h : SqL K H a (NL l)) (q : Q (nv l.sum) H) : rSum K [.ref a] H Q := by
  refine ⟨a, l.map fun n : Nat => (n : Int), rfl, ?_, ?_⟩
  · rw [← NL_ints]
    exact h
  · rw [sum_cast]
    exact q
def revL (sold fares : List Nat) : Nat := ((sold.zip fares).map fun p => p.1 * p.2).sum
def spRev (K : PySem.W.Frag) (CP : Addr) : Sp := fun vs H Q _ => ∃ (p so : Addr) (st : State) (sold : List Nat), vs = [.ref p, .ref so] ∧ PlanR K CP H p st ∧ StOk st ∧ H so = some (.lst (NL sold)) ∧ sold.length = st.classes.length ∧ (∀ z ∈ sold, z ≤ 1000) ∧
  ∀ (H' : Hp) (l : Addr), Same H H' → H l = none → H' l = some (.lst (NL (0 :: (sold ++ [revL sold (st.classes.map (·.fare))])))) → Q (.ref l) H'
theorem ok_with_revenue (F : FnIn K mg "with_revenue" s_with_revenue ["plan", "sold"]) (T : Txt K mg CW CC CP) : FnDo P w K mg base 1 "with_revenue" s_with_revenue ["plan", "sold"] (spRev K CP) := by
  refine F.doIt sc_with_revenue (fun vs H Q E h => ?_) (fun f cdv A outer s H vs Q E hr h => ?_)
  · obtain ⟨p, so, st, sold, rfl, _⟩ := h
    rfl
  · obtain ⟨p, so, st, sold, rfl, hp, ok, hso, hsl, hsz, q⟩ := h
    refine ⟨_, (pss_cons (ps_set (i := 2) sc_with_revenue.nd rfl (by first | exact Or.inl rfl | exact Or.inr rfl) (pe_callB (cr_sumK K rfl rfl) (by rfl) T.no_sum boot_sum (pa_cons (pe_lc rfl sc_with_revenue.nd (pi_zipK K rfl rfl T.no_zip (pa_cons (pv 1) (pa_cons (pe_fldK K rfl (pv 0) rfl) pa_nil))) (blkOk_by (own := [("number", 3), ("fare", 4)]) rfl) (fun _ _ _ _ _ => (pg_tupK K (n := 2) rfl rfl (pgs_cons (pg_name (i := 3) sc_with_revenue.nd rfl (by first | exact Or.inl rfl | exact Or.inr rfl)) (pgs_cons (pg_name (i := 4) sc_with_revenue.nd rfl (by first | exact Or.inl rfl | exact Or.inr rfl)) pgs_nil)))) (fun _ _ _ _ _ => pts_nil) (fun _ _ _ _ _ => (pe_op op_mul (pv 3) (pv 4)))) pa_nil))) (pss_one (ps_ret (pe_op op_cat (pe_op op_cat (pe_lst (pa_cons pe_int pa_nil)) (pv 1)) (pe_lst (pa_cons (pv 2) pa_nil)))))), ?_⟩
    obtain ⟨dx, fs, fa, wa, h1, h2, h3, h4, h5, h6⟩ := id hp
    refine ⟨_, rfl, _, rfl, p, CP, dx, fs, _, rfl, h1, T.cP, T.p_fares, h3, so, fa, _, _, rfl, SqL.of hso, h5, ?_⟩
    intro D hD
    have hmin : min (NL sold).length (NL (st.classes.map (·.fare))).length = st.classes.length := by rw [NL_len, NL_len, List.length_map, hsl, Nat.min_self]
    have s1 : Same H (upd H D (.lst [])) := Same.upd_new hD
    refine lc_zip (K := K) (a := so) (b := fa) (xs := NL sold) (ys := NL (st.classes.map (·.fare))) (fun i Hi => Same H Hi ∧ Hi D = some (.lst (NL (((sold.zip (st.classes.map (·.fare))).map fun p => p.1 * p.2).take i))))
      ⟨s1, upd_same⟩ (fun i Hi _ ⟨s5, _⟩ => ⟨s5.seq (SqL.of hso), s5.seq h5⟩) ?_ ?_
    · rintro i x y Tt Hi hx hy hT ⟨s5, hDi⟩
      obtain ⟨n, hn, rfl⟩ := NL_get hx
      obtain ⟨fr, hfr, rfl⟩ := NL_get hy
      have hi : i < sold.length := (List.getElem?_eq_some_iff.mp hn).1
      have hlen := ok.len
      have s6 : Same Hi (upd Hi Tt (.tup [nv n, nv fr])) := Same.upd_new hT
      refine ⟨Tt, _, rfl, .inl (.inl upd_same), rfl, _, _, rfl, _, _, rfl, rfl, rfl, tYes_i ?_⟩
      refine ⟨_, rfl, _, rfl, _, _, rfl, rfl, mulS (by have := hsz n (List.mem_of_getElem? hn); omega), _, s6 _ _ hDi, ?_, ?_, ?_⟩
      · rw [NL_len, List.length_take]
        show min i _ < 16777216
        omega
      · exact fun b o e => by rw [upd_ne (ne_of_none e hD)]; exact s6 _ _ (s5 _ _ e)
      · have ep : ((sold.zip (st.classes.map (·.fare))).map fun p => p.1 * p.2)[i]? = some (n * fr) := by
          rw [List.getElem?_map, List.getElem?_zip_eq_some (z := (n, fr)) |>.mpr ⟨hn, hfr⟩]
          rfl
        rw [upd_same, take_snoc ep]
        unfold NL
        rw [List.map_append]
        show some (HO.lst (_ ++ [V.int ((n : Int) * (fr : Int))])) = some (HO.lst (_ ++ [V.int ((n * fr : Nat) : Int)]))
        push_cast
        all_goals rfl
    · rintro Hi ⟨s5, hDi⟩
      have el : (((sold.zip (st.classes.map (·.fare))).map fun p => p.1 * p.2)).length = st.classes.length := by
        rw [List.length_map, List.length_zip, List.length_map, hsl, Nat.min_self]
      rw [hmin, ← el, List.take_length] at hDi
      unfold tNil
      refine sumNL (SqL.of hDi) ?_
      refine ⟨(by show 1 ≤ sizeLine; decide), fun l0 hl0 => ?_⟩
      have s7 : Same Hi (upd Hi l0 (.lst [V.int 0])) := Same.upd_new hl0
      have hl := ok.len
      refine ⟨_, rfl, l0, so, _, _, rfl, rfl, upd_same, s7 _ _ (s5 _ _ hso), ?_, fun l1 hl1 => ?_⟩
      · rw [NL_len, hsl]
        show 1 + st.classes.length ≤ 16777216
        omega
      have s8 := s7.trans (Same.upd_new (o := .lst ([V.int 0] ++ NL sold)) hl1)
      refine ⟨_, rfl, (by show 1 ≤ sizeLine; decide), fun l2 hl2 => ?_⟩
      have s9 := Same.upd_new (o := .lst [nv (revL sold (st.classes.map (·.fare)))]) hl2
      refine ⟨l1, l2, _, _, rfl, rfl, s9 _ _ upd_same, upd_same, ?_, fun l3 hl3 => ?_⟩
      · rw [List.length_append, NL_len, hsl]
        show 1 + st.classes.length + 1 ≤ 16777216
        omega
      have s10 := ((s5.trans s8).trans s9)
      refine q _ l3 (s10.trans (Same.upd_new hl3)) (s10.free hl3) ?_
      rw [upd_same]
      unfold NL
      rw [List.map_cons, List.map_append]
      rfl
theorem rev_eq (st : State) (l : List Nat) (h : l.length = st.classes.length) : Vbahal.revenue st l = revL l (st.classes.map (·.fare)) := by
  unfold Vbahal.revenue revL
  congr 1
  refine List.ext_getElem? fun i => ?_
  rw [List.getElem?_map, List.getElem?_map, List.getElem?_zipIdx]
  by_cases hi : i < l.length
  · rw [List.getElem?_eq_getElem hi]
    have e : (l.zip (st.classes.map (·.fare)))[i]? = some (l[i], (st.classes.map (·.fare))[i]'(by rw [List.length_map]; omega)) := List.getElem?_zip_eq_some.mpr ⟨List.getElem?_eq_getElem hi, List.getElem?_eq_getElem _⟩
    rw [e]
    show some (l[i] * Vbahal.fareOf st (0 + i)) = _
    unfold Vbahal.fareOf
    rw [Nat.zero_add, List.getElem?_eq_getElem (show i < st.classes.length by omega)]
    simp
  · rw [List.getElem?_eq_none (by omega), List.getElem?_eq_none (by rw [List.length_zip]; omega)]
    rfl
def CKnown (st : State) (ns : List Nat) (rows : List (List Nat)) (c : Vbahal.Call) : Prop := ∃ d, rows = [d] ∧ d.length ≤ 1000 ∧ c = .known d
theorem known_len : ∀ (d : List Nat) (x : Nat), (Vbahal.known x d).length = d.length
  | [], _ => rfl
  | a :: d, x => by
    show (Vbahal.known (x - min a x) d).length + 1 = _
    rw [known_len d]
    rfl
theorem known_le : ∀ (d : List Nat) (x : Nat), ∀ z ∈ Vbahal.known x d, z ≤ x
  | [], _, z, h => by cases h
  | a :: d, x, z, h => by
    have h : z ∈ min a x :: Vbahal.known (x - min a x) d := h
    rcases List.mem_cons.mp h with e | e
    · omega
    · have := known_le d _ z e
      omega
theorem row_at {rows : List (List Nat)} {ro : Addr} {H : Hp} {d : List Nat} (h : RowsH H ro rows) (hd : rows = [d]) : ∃ r as, SqL K H ro as ∧ atI as 0 = some (V.ref r) ∧ SqL K H r (NL d) := by
  subst hd
  obtain ⟨as, h1, h2, h3⟩ := h
  match as, h2 with
  | [r], _ => exact ⟨r, _, SqL.of h1, atI_nat (j := 0) rfl, SqL.of (h3 0 r d rfl rfl)⟩
theorem ok_known (F : FnIn K mg "known" s_known ["plan", "numbers", "rows"]) (T : Txt K mg CW CC CP) (G_with_revenue : FnDo P w K mg base 1 "with_revenue" s_with_revenue ["plan", "sold"] (spRev K CP)) :
    FnDo P w K mg base 2 "known" s_known ["plan", "numbers", "rows"] (spRO K CP CKnown) := by
  refine F.doIt sc_known (fun vs H Q E h => ?_) (fun f cdv A outer s H vs Q E hr h => ?_)
  · obtain ⟨p, nu, ro, st, ns, rows, c, rfl, _⟩ := h
    rfl
  · obtain ⟨p, nu, ro, st, ns, rows, c, rfl, hp, ok, hk, hnu, hro, ⟨d, hrows, hdl, rfl⟩, q⟩ := h
    refine ⟨_, (pss_cons (ps_if (pt_cmpR op_ne (pe_callB (call_lenK K rfl) (by rfl) T.no_len PySem.boot_len (pa_cons (pe_ix (ix_listK K rfl) (pv 2) pe_int (fun _ _ => rfl)) pa_nil)) (pe_callB (call_lenK K rfl) (by rfl) T.no_len PySem.boot_len (pa_cons (pe_fldK K rfl (pv 0) rfl) pa_nil)) (nomark _)) (pss_one (ps_ret (pe_lst (pa_cons (pe_un un_neg pe_int) pa_nil)))) pss_nil) (pss_cons (ps_set (i := 3) sc_known.nd rfl (by first | exact Or.inl rfl | exact Or.inr rfl) (pe_fldK K rfl (pv 0) rfl)) (pss_cons (ps_set (i := 4) sc_known.nd rfl (by first | exact Or.inl rfl | exact Or.inr rfl) (pe_lst pa_nil)) (pss_cons (ps_for PassesOwn.never rfl (pi_listK K rfl (pe_ix (ix_listK K rfl) (pv 2) pe_int (fun _ _ => rfl))) (pg_name (i := 5) sc_known.nd rfl (by first | exact Or.inl rfl | exact Or.inr rfl)) (pss_cons (ps_set (i := 6) sc_known.nd rfl (by first | exact Or.inl rfl | exact Or.inr rfl) (pe_callB (call_min2 rfl) (by rfl) T.no_min boot_min (pa_cons (pv 5) (pa_cons (pv 3) pa_nil)))) (pss_cons (ps_expr (pe_bm PySem.F.plainAttrs_list PySem.F.slot_list_append PySem.F.type_list_append mt_append (pv 4) (pa_cons (pv 6) pa_nil))) (pss_one (ps_aug (i := 3) sc_known.nd rfl (by first | exact Or.inl rfl | exact Or.inr rfl) (pv 6) ip_sub))))) (pss_one (ps_ret (pe_callO G_with_revenue (hr.mono (by decide)) rfl (pa_cons (pv 0) (pa_cons (pv 4) pa_nil))))))))), ?_⟩
    obtain ⟨dx, fs, fa, wa, h1, h2, h3, h4, h5, h6⟩ := id hp
    obtain ⟨r, ras, hr1, hr2, hr3⟩ := row_at hro hrows
    have hstep : (Vbahal.step st (.known d)).2 = if d.length ≠ st.classes.length then [-7] else Vbahal.ok (Vbahal.known st.seats d ++ [Vbahal.revenue st (Vbahal.known st.seats d)]) := by
      show (Vbahal.has st 0 _).2 = _
      rw [has_ok hk]
      split <;> rfl
    rw [hstep] at q
    refine ⟨_, rfl, ro, _, _, _, rfl, rfl, hr1, hr2, r, _, rfl, .inl hr3, _, rfl, p, CP, dx, fs, _, rfl, h1, T.cP, T.p_fares, h3, fa, _, rfl, .inl h5, rfl, _, rfl, ?_⟩
    have hcond : (!decide (V.int ((NL d).length : Nat) = V.int ((NL (st.classes.map (·.fare))).length : Nat))) = decide (d.length ≠ st.classes.length) := by
      rw [NL_len, NL_len, List.length_map]
      by_cases e : d.length = st.classes.length
      · rw [e]
        simp
      · have : ¬ V.int (d.length : Nat) = V.int (st.classes.length : Nat) := fun z => e (by injection z with z; omega)
        simp [this, e]
    rw [hcond]
    refine ite2 (fun hc => ?_) (fun hc => ?_)
    · have hc := of_decide_eq_true hc
      rw [if_pos hc] at q
      refine ⟨_, rfl, (by show 1 ≤ sizeLine; decide), fun l hl => ?_⟩
      exact q _ l (Same.upd_new hl) hl upd_same
    · have hc : d.length = st.classes.length := by
        by_cases e : d.length = st.classes.length
        · exact e
        · exact absurd (decide_eq_true e) hc
      rw [if_neg (by simp [hc]), ok_NL] at q
      have hlen := ok.len
      refine ⟨_, rfl, p, CP, dx, fs, _, rfl, h1, T.cP, T.p_seats, h2, (Nat.zero_le _), fun so hso => ?_⟩
      have s0 : Same H (upd H so (.lst [])) := Same.upd_new hso
      refine ⟨_, rfl, ro, _, _, _, rfl, rfl, s0.seq hr1, hr2, r, rfl, ⟨_, s0.seq hr3⟩, for_list (K := K) (a := r) (xs := NL d)
        (fun i σ H' => ∃ (x : Nat) (sold : List Nat) (v1 v2 : Option V), σ = [some (.ref p), some (.ref nu), some (.ref ro), some (nv x), some (.ref so), v1, v2] ∧ Same H H' ∧ H' so = some (.lst (NL sold)) ∧ sold.length = i ∧ sold ++ Vbahal.known x (d.drop i) = Vbahal.known st.seats d)
        ⟨st.seats, [], none, none, rfl, s0, upd_same, rfl, rfl⟩ (fun i σ H' _ ⟨_, _, _, _, _, s5, _⟩ => s5.seq hr3) ?_ ?_⟩
      · rintro i y σ H' hi ⟨x, sold, v1, v2, rfl, s5, hso', hsl, heq⟩
        obtain ⟨n, hn, rfl⟩ := NL_get hi
        have hi' : i < d.length := (List.getElem?_eq_some_iff.mp hn).1
        refine ⟨_, rfl, _, rfl, _, _, rfl, ?_⟩
        rw [min_cast]
        refine ⟨_, rfl, .inl ⟨rfl, _, SqL.of hso'⟩, _, rfl, so, _, _, rfl, rfl, hso', ?_, ?_⟩
        · rw [NL_len, hsl]
          show i < 16777216
          omega
        have ex : (x : Int) - ((min n x : Nat) : Int) = ((x - min n x : Nat) : Int) := by omega
        refine ⟨_, rfl, _, rfl, _, _, rfl, rfl, ?_⟩
        refine ⟨x - min n x, sold ++ [min n x], some (nv n), some (nv (min n x)), ?_, ?_, ?_, ?_, ?_⟩
        · show [some (V.ref p), some (V.ref nu), some (V.ref ro), some (V.int ((x : Int) - ((min n x : Nat) : Int))), some (V.ref so), some (nv n), some (nv (min n x))] = _
          rw [ex]
        · exact fun b o e => by rw [upd_ne (ne_of_none e hso)]; exact s5 _ _ e
        · rw [upd_same]
          unfold NL
          rw [List.map_append]
          rfl
        · rw [List.length_append, hsl]
          rfl
        · rw [List.append_assoc, ← heq, List.drop_eq_getElem_cons hi']
          have en : d[i] = n := (List.getElem?_eq_some_iff.mp hn).2
          rw [en]
          rfl
      · rintro σ H' ⟨x, sold, v1, v2, rfl, s5, hso', hsl, heq⟩
        rw [NL_len] at hsl heq
        rw [List.drop_length] at heq
        have heq : sold = Vbahal.known st.seats d := by rw [← heq]; exact (List.append_nil _).symm
        refine ⟨_, rfl, _, rfl, p, so, st, sold, rfl, hp.same s5, ok, hso', by omega, fun z hz => ?_, fun H6 l6 s6 hn6 hl6 => ?_⟩
        · rw [heq] at hz
          have := known_le _ _ z hz
          have := ok.seats
          omega
        · refine q H6 l6 (s5.trans s6) (s5.free hn6) ?_
          rw [hl6, rev_eq st _ (by rw [known_len]; exact hc), heq]
def CPlay (st : State) (ns : List Nat) (rows : List (List Nat)) (c : Vbahal.Call) : Prop := ∃ d, rows = [d] ∧ d.length ≤ 1000 ∧ c = .play d
theorem played_len (p : List Nat) : ∀ (d : List Nat) (x i : Nat), (Vbahal.played p x i d).length = d.length
  | [], _, _ => rfl
  | a :: d, x, i => by
    show (Vbahal.played p x (i + 1) d).length + 1 = _
    rw [played_len p d]
    rfl
theorem played_le (p : List Nat) : ∀ (d : List Nat) (x i : Nat), (Vbahal.played p x i d).sum ≤ x
  | [], _, _ => Nat.zero_le _
  | a :: d, x, i => by
    have ih := played_le p d x (i + 1)
    show (takes p i (x - (Vbahal.played p x (i + 1) d).sum) a :: Vbahal.played p x (i + 1) d).sum ≤ x
    rw [List.sum_cons]
    unfold takes
    omega
theorem mem_le_sum : ∀ (l : List Nat), ∀ z ∈ l, z ≤ l.sum
  | a :: l, z, h => by
    rw [List.sum_cons]
    rcases List.mem_cons.mp h with e | e
    · omega
    · have := mem_le_sum l z e
      omega
end
end Ks
namespace Ks
open PySem PySem.Spec PyProof.Rows L2
open Vbahal (Class State withClass levels bestOf greatest zeros meanWith takes against protectionIn)
section
variable {P : Program} {w : World} {K : PySem.W.Frag} {mg : Str → Option Value} {base : Heap} {CW CC CP : Addr}
theorem ne_len {a b : Nat} : (!decide (V.int (a : Int) = V.int (b : Int))) = decide (a ≠ b) := by
  by_cases e : a = b
  · rw [e]
    simp
  · have : ¬ V.int (a : Int) = V.int (b : Int) := fun z => e (by injection z with z; omega)
    simp [this, e]
theorem NL_app (a b : List Nat) : NL (a ++ b) = NL a ++ NL b := by
  unfold NL
  rw [List.map_append]
theorem down_range : ∀ k : Nat, 1 ≤ k → k ≤ 8 → RgC ((k : Int) - 1) (-1) (-1) k := by
  intro k h1 h2
  have h : ∀ k : _root_.Fin 9, 1 ≤ k.val → Builtin.Range.small ((k.val : Int) - 1) (-1) (-1) = true ∧ Builtin.Range.rangeSize ((k.val : Int) - 1) (-1) (-1) = k.val := by decide +kernel
  obtain ⟨a, b⟩ := h ⟨k, by omega⟩ h1
  exact ⟨by decide, by decide, a, b⟩
theorem ixN_nat {n j : Nat} (h : j < n) : ixN n (j : Int) = some j := by
  unfold ixN
  rw [if_pos (by omega), if_pos (by omega)]
  simp
theorem rep_flat (k : Nat) : (List.replicate k [V.int 0]).flatten = NL (List.replicate k 0) := by
  unfold NL
  rw [List.map_replicate]
  induction k with
  | zero => rfl
  | succ m ih => rw [List.replicate_succ, List.replicate_succ, List.flatten_cons, ih]; rfl
theorem set_mid (j v : Nat) (l : List Nat) : (List.replicate (j + 1) 0 ++ l).set j v = List.replicate j 0 ++ v :: l := by
  rw [List.set_append, if_pos (by simp)]
  have : (List.replicate (j + 1) 0).set j v = List.replicate j 0 ++ [v] := by
    rw [show List.replicate (j + 1) 0 = List.replicate j 0 ++ [0] from List.replicate_succ']
    rw [List.set_append, if_neg (by simp)]
    simp
  rw [this, List.append_assoc]
  rfl
theorem NL_set (l : List Nat) (j v : Nat) : (NL l).set j (nv v) = NL (l.set j v) := by
  unfold NL
  rw [List.map_set]
theorem ok_play (F : FnIn K mg "play" s_play ["plan", "numbers", "rows"]) (T : Txt K mg CW CC CP) (G_best_kept : FnDo P w K mg base 5 "best_kept" s_best_kept ["fares", "weights", "seats"] (spBestKept K))
    (G_kept_from : FnDo P w K mg base 1 "kept_from" s_kept_from ["kept"] spKeptFrom) (G_sold_of : FnDo P w K mg base 1 "sold_of" s_sold_of ["asked", "left", "kept"] spSold)
    (G_with_revenue : FnDo P w K mg base 1 "with_revenue" s_with_revenue ["plan", "sold"] (spRev K CP)) :
    FnDo P w K mg base 6 "play" s_play ["plan", "numbers", "rows"] (spRO K CP CPlay) := by
  refine F.doIt sc_play (fun vs H Q E h => ?_) (fun f cdv A outer s H vs Q E hr h => ?_)
  · obtain ⟨p, nu, ro, st, ns, rows, c, rfl, _⟩ := h
    rfl
  · obtain ⟨p, nu, ro, st, ns, rows, c, rfl, hp, ok, hk, hnu, hro, ⟨d, hrows, hdl, rfl⟩, q⟩ := h
    refine ⟨_, (pss_cons (ps_set (i := 3) sc_play.nd rfl (by first | exact Or.inl rfl | exact Or.inr rfl) (pe_ix (ix_listK K rfl) (pv 2) pe_int (fun _ _ => rfl))) (pss_cons (ps_set (i := 4) sc_play.nd rfl (by first | exact Or.inl rfl | exact Or.inr rfl) (pe_callB (call_lenK K rfl) (by rfl) T.no_len PySem.boot_len (pa_cons (pe_fldK K rfl (pv 0) rfl) pa_nil))) (pss_cons (ps_if (pt_cmpR op_ne (pe_callB (call_lenK K rfl) (by rfl) T.no_len PySem.boot_len (pa_cons (pv 3) pa_nil)) (pv 4) (nomark _)) (pss_one (ps_ret (pe_lst (pa_cons (pe_un un_neg pe_int) pa_nil)))) pss_nil) (pss_cons (ps_set (i := 5) sc_play.nd rfl (by first | exact Or.inl rfl | exact Or.inr rfl) (pe_callO G_kept_from (hr.mono (by decide)) rfl (pa_cons (pe_callO G_best_kept (hr.mono (by decide)) rfl (pa_cons (pe_fldK K rfl (pv 0) rfl) (pa_cons (pe_fldK K rfl (pv 0) rfl) (pa_cons (pe_fldK K rfl (pv 0) rfl) pa_nil)))) pa_nil))) (pss_cons (ps_set (i := 6) sc_play.nd rfl (by first | exact Or.inl rfl | exact Or.inr rfl) (pe_fldK K rfl (pv 0) rfl)) (pss_cons (ps_set (i := 7) sc_play.nd rfl (by first | exact Or.inl rfl | exact Or.inr rfl) (pe_op op_rep (pe_lst (pa_cons pe_int pa_nil)) (pv 4))) (pss_cons (ps_for PassesOwn.never rfl (pi_range3 rfl T.no_range (pa_cons (pe_op op_sub (pv 4) pe_int) (pa_cons (pe_un un_neg pe_int) (pa_cons (pe_un un_neg pe_int) pa_nil)))) (pg_name (i := 8) sc_play.nd rfl (by first | exact Or.inl rfl | exact Or.inr rfl)) (pss_cons (ps_asg (pe_callO G_sold_of (hr.mono (by decide)) rfl (pa_cons (pe_ix (ix_listK K rfl) (pv 3) (pv 8) (fun _ _ => rfl)) (pa_cons (pv 6) (pa_cons (pe_ix (ix_listK K rfl) (pv 5) (pv 8) (fun _ _ => rfl)) pa_nil)))) (pg_sub (pv 7) (pv 8) set_list)) (pss_one (ps_aug (i := 6) sc_play.nd rfl (by first | exact Or.inl rfl | exact Or.inr rfl) (pe_ix (ix_listK K rfl) (pv 7) (pv 8) (fun _ _ => rfl)) ip_sub)))) (pss_one (ps_ret (pe_callO G_with_revenue (hr.mono (by decide)) rfl (pa_cons (pv 0) (pa_cons (pv 7) pa_nil)))))))))))), ?_⟩
    obtain ⟨dx, fs, fa, wa, h1, h2, h3, h4, h5, h6⟩ := id hp
    obtain ⟨r, ras, hr1, hr2, hr3⟩ := row_at hro hrows
    generalize hpr : prots st.seats st.classes = pr at *
    have hstep : (Vbahal.step st (.play d)).2 = if d.length ≠ st.classes.length then [-7] else Vbahal.ok (Vbahal.played pr st.seats 0 d ++ [Vbahal.revenue st (Vbahal.played pr st.seats 0 d)]) := by
      show (Vbahal.has st 0 _).2 = _
      rw [has_ok hk, ← hpr]
      split <;> rfl
    rw [hstep] at q
    refine ⟨_, rfl, ro, _, _, _, rfl, rfl, hr1, hr2, ?_⟩
    refine ⟨_, rfl, p, CP, dx, fs, _, rfl, h1, T.cP, T.p_fares, h3, fa, _, rfl, .inl h5, ?_⟩
    refine ⟨_, rfl, r, _, rfl, .inl hr3, _, rfl, rfl, _, rfl, ?_⟩
    rw [NL_len, NL_len, List.length_map, ne_len]
    refine ite2 (fun hc => ?_) (fun hc => ?_)
    · have hc := of_decide_eq_true hc
      rw [if_pos hc] at q
      refine ⟨_, rfl, (by show 1 ≤ sizeLine; decide), fun l hl => ?_⟩
      exact q _ l (Same.upd_new hl) hl upd_same
    · have hc : d.length = st.classes.length := by
        by_cases e : d.length = st.classes.length
        · exact e
        · exact absurd (decide_eq_true e) hc
      rw [if_neg (by simp [hc]), ok_NL] at q
      have hlen := ok.len
      refine ⟨_, rfl, p, CP, dx, fs, _, rfl, h1, T.cP, T.p_fares, h3, _, rfl, p, CP, dx, fs, _, rfl, h1, T.cP, T.p_weights, h4, _, rfl, p, CP, dx, fs, _, rfl, h1, T.cP, T.p_seats, h2, ?_⟩
      refine ⟨fa, wa, st.seats, st.classes, rfl, h5, h6, ok.seats, by omega, fun c hc => (ok.cls c hc).ok, fun H3 l3 s3 hn3 hl3 => ?_⟩
      rw [hpr] at hl3
      have hprl : pr.length = st.classes.length - 1 := by rw [← hpr, prots_len]
      refine ⟨l3, _, rfl, hl3, by omega, fun H4 l4 s4 hn4 hl4 => ?_⟩
      have s34 := s3.trans s4
      refine ⟨_, rfl, p, CP, dx, fs, _, rfl, s34 _ _ h1, T.cP, T.p_seats, h2, ?_⟩
      refine ⟨(by show 1 ≤ sizeLine; decide), fun z0 hz0 => ?_⟩
      have s5 : Same H4 (upd H4 z0 (.lst [V.int 0])) := Same.upd_new hz0
      refine ⟨_, rfl, z0, _, _, rfl, rfl, upd_same, by omega, by omega, ?_, fun so hso => ?_⟩
      · show 1 * ((st.classes.length : Nat) : Int).toNat ≤ 16777216
        rw [Int.toNat_natCast]
        omega
      have s6 := (s34.trans s5).trans (Same.upd_new (o := .lst (List.replicate ((st.classes.length : Nat) : Int).toNat [V.int 0]).flatten) hso)
      have hso' : H so = none := (s34.trans s5).free hso
      have hne : l4 ≠ so := ne_of_none (s5 _ _ hl4) hso
      refine ⟨_, rfl, _, _, rfl, rfl, _, rfl, _, rfl, _, _, _, st.classes.length, rfl, down_range _ hk hlen, for_rangeC (n := st.classes.length)
        (fun i σ H' => ∃ (v : Option V), σ = [some (.ref p), some (.ref nu), some (.ref ro), some (.ref r), some (nv st.classes.length), some (.ref l4),
            some (nv (st.seats - (Vbahal.played pr st.seats (st.classes.length - i) (d.drop (st.classes.length - i))).sum)), some (.ref so), v] ∧ Same H H' ∧ H' l4 = some (.lst (NL (0 :: pr))) ∧
          H' so = some (.lst (NL (List.replicate (st.classes.length - i) 0 ++ Vbahal.played pr st.seats (st.classes.length - i) (d.drop (st.classes.length - i)))))) ⟨none, ?_, s6, ?_, ?_⟩ ?_ ?_⟩
      · rw [Nat.sub_zero, ← hc, List.drop_length]
        rfl
      · rw [upd_ne (ne_of_none (s5 _ _ hl4) hso)]
        exact s5 _ _ hl4
      · rw [upd_same, Nat.sub_zero, Int.toNat_natCast, rep_flat]
        rw [← hc, List.drop_length]
        show _ = some (HO.lst (NL (List.replicate d.length 0 ++ [])))
        rw [List.append_nil]
      · rintro i σ H' hi ⟨v, rfl, s7, hl4', hso2⟩
        generalize hj : st.classes.length - (i + 1) = j
        have hj1 : st.classes.length - i = j + 1 := by omega
        rw [hj1] at hso2 ⊢
        have hjd : j < d.length := by omega
        have ei : (st.classes.length : Int) - 1 + (i : Nat) * (-1 : Int) = (j : Int) := by omega
        show gName 8 (V.int ((st.classes.length : Int) - 1 + (i : Nat) * (-1 : Int))) _ _ _
        rw [ei]
        have ed : d.drop j = d.getD j 0 :: d.drop (j + 1) := by
          rw [List.drop_eq_getElem_cons hjd, List.getD_eq_getElem?_getD, List.getElem?_eq_getElem hjd]
          rfl
        have hsum := played_le pr (d.drop (j + 1)) st.seats (j + 1)
        generalize hL : Vbahal.played pr st.seats (j + 1) (d.drop (j + 1)) = L at *
        have hpl : Vbahal.played pr st.seats j (d.drop j) = min (d.getD j 0) (st.seats - L.sum - (0 :: pr).getD j 0) :: L := by
          rw [ed]
          show takes pr j (st.seats - (Vbahal.played pr st.seats (j + 1) (d.drop (j + 1))).sum) (d.getD j 0) :: Vbahal.played pr st.seats (j + 1) (d.drop (j + 1)) = _
          rw [hL, takes_eq]
        generalize hm : min (d.getD j 0) (st.seats - L.sum - (0 :: pr).getD j 0) = m at *
        have hlenso : (NL (List.replicate (j + 1) 0 ++ L)).length = j + 1 + L.length := by rw [NL_len, List.length_append, List.length_replicate]
        refine ⟨_, rfl, _, rfl, r, _, _, _, rfl, rfl, s7.seq hr3, NL_getD hjd, _, rfl, _, rfl, _, rfl, l4, _, _, _, rfl, rfl, SqL.of hl4', NL_getD (i := j) (by rw [List.length_cons, hprl]; omega), ?_⟩
        refine ⟨d.getD j 0, st.seats - L.sum, (0 :: pr).getD j 0, rfl, ?_⟩
        rw [hm]
        refine ⟨_, rfl, _, rfl, so, _, _, j, rfl, rfl, hso2, ixN_nat (by rw [hlenso]; omega), ?_⟩
        have eset : (NL (List.replicate (j + 1) 0 ++ L)).set j (nv m) = NL (List.replicate j 0 ++ m :: L) := by rw [NL_set, set_mid]
        rw [eset]
        have hat : atI (NL (List.replicate j 0 ++ m :: L)) (j : Int) = some (nv m) := NL_at (by rw [List.getElem?_append_right (by simp)]; simp)
        refine ⟨_, rfl, _, rfl, _, rfl, so, _, _, _, rfl, rfl, SqL.of upd_same, hat, _, _, rfl, rfl, ?_⟩
        refine ⟨some (nv j), ?_, ?_, ?_, ?_⟩
        · rw [hpl, List.sum_cons]
          show [some (V.ref p), some (V.ref nu), some (V.ref ro), some (V.ref r), some (nv st.classes.length), some (V.ref l4), some (V.int (((st.seats - L.sum : Nat) : Int) - (m : Int))), some (V.ref so), some (nv j)] = _
          have e : ((st.seats - L.sum : Nat) : Int) - (m : Int) = ((st.seats - (m + L.sum) : Nat) : Int) := by omega
          rw [e]
        · exact fun b o e => by rw [upd_ne (ne_of_none e hso')]; exact s7 _ _ e
        · rw [upd_ne hne]
          exact hl4'
        · rw [upd_same, hpl]
      · rintro σ H' ⟨v, rfl, s7, hl4', hso2⟩
        rw [Nat.sub_self] at hso2
        have hso2 : H' so = some (.lst (NL (Vbahal.played pr st.seats 0 d))) := hso2
        refine ⟨_, rfl, _, rfl, p, so, st, _, rfl, hp.same s7, ok, hso2, by rw [played_len]; omega, fun z hz => ?_, fun H6 l6 s6 hn6 hl6 => ?_⟩
        · have h1 := mem_le_sum _ z hz
          have h2 := played_le pr d st.seats 0
          have := ok.seats
          omega
        · refine q H6 l6 (s7.trans s6) (s7.free hn6) ?_
          rw [hl6, rev_eq st _ (by rw [played_len]; exact hc)]
def CMean (st : State) (ns : List Nat) (rows : List (List Nat)) (c : Vbahal.Call) : Prop := ∃ d, rows = [d] ∧ d.length ≤ 1000 ∧ c = .mean d
theorem meanWith_unit (S : Nat) (p : List Nat) : ∀ (l : List Class) (i q : Nat) (u : List Nat), 0 < q → u.length = S + 1 → (∀ c ∈ l, CGood c) → 0 < (meanWith S p i q u l).1 ∧ (meanWith S p i q u l).1 ≤ q * 21000 ^ l.length ∧ (meanWith S p i q u l).2.length = S + 1
  | [], i, q, u, hq, hu, _ => by
    show 0 < q ∧ q ≤ q * 21000 ^ 0 ∧ u.length = S + 1
    refine ⟨hq, by simp, hu⟩
  | c :: l, i, q, u, hq, hu, hc => by
    have g := hc c (by simp)
    have h1 : 0 < q * c.weights.sum := Nat.mul_pos hq g.pos
    have h2 : q * c.weights.sum ≤ q * 21000 := Nat.mul_le_mul_left _ g.sum
    have h3 : (21000 : Nat) ^ (l.length + 1) = 21000 ^ l.length * 21000 := Nat.pow_succ ..
    rw [meanWith_cons]
    obtain ⟨a, b, e⟩ := meanWith_unit S p l (i + 1) _ (keptU S ((0 :: p).getD i 0) c q u) h1 (by simp [keptU]) (fun d hd => hc d (by simp [hd]))
    refine ⟨a, Nat.le_trans b ?_, e⟩
    show q * c.weights.sum * 21000 ^ l.length ≤ q * 21000 ^ (l.length + 1)
    rw [h3, Nat.mul_comm (21000 ^ l.length) 21000, ← Nat.mul_assoc]
    exact Nat.mul_le_mul_right _ h2
theorem rowH_at {rows : List (List Nat)} {ro : Addr} {H : Hp} {d : List Nat} (h : RowsH H ro rows) (hd : rows = [d]) : ∃ r as, H ro = some (.lst as) ∧ atI as 0 = some (V.ref r) ∧ H r = some (.lst (NL d)) := by
  subst hd
  obtain ⟨as, h1, h2, h3⟩ := h
  match as, h2 with
  | [r], _ => exact ⟨r, _, h1, atI_nat (j := 0) rfl, h3 0 r d rfl rfl⟩
theorem ok_mean (F : FnIn K mg "mean" s_mean ["plan", "numbers", "rows"]) (T : Txt K mg CW CC CP) (G_kept_worth : FnDo P w K mg base 4 "kept_worth" s_kept_worth ["fares", "weights", "seats", "kept"] (spKeptWorth K CW))
    (G_kept_from : FnDo P w K mg base 1 "kept_from" s_kept_from ["kept"] spKeptFrom) (G_lowest_terms : FnDo P w K mg base 2 "lowest_terms" s_lowest_terms ["above", "below"] spLow) :
    FnDo P w K mg base 5 "mean" s_mean ["plan", "numbers", "rows"] (spRO K CP CMean) := by
  refine F.doIt sc_mean (fun vs H Q E h => ?_) (fun f cdv A outer s H vs Q E hr h => ?_)
  · obtain ⟨p, nu, ro, st, ns, rows, c, rfl, _⟩ := h
    rfl
  · obtain ⟨p, nu, ro, st, ns, rows, c, rfl, hp, ok, hk, hnu, hro, ⟨d, hrows, hdl, rfl⟩, q⟩ := h
    refine ⟨_, (pss_cons (ps_if (pt_cmpR op_ne (pe_callB (call_lenK K rfl) (by rfl) T.no_len PySem.boot_len (pa_cons (pe_ix (ix_listK K rfl) (pv 2) pe_int (fun _ _ => rfl)) pa_nil)) (pe_op op_sub (pe_callB (call_lenK K rfl) (by rfl) T.no_len PySem.boot_len (pa_cons (pe_fldK K rfl (pv 0) rfl) pa_nil)) pe_int) (nomark _)) (pss_one (ps_ret (pe_lst (pa_cons (pe_un un_neg pe_int) pa_nil)))) pss_nil) (pss_cons (ps_set (i := 3) sc_mean.nd rfl (by first | exact Or.inl rfl | exact Or.inr rfl) (pe_callO G_kept_worth (hr.mono (by decide)) rfl (pa_cons (pe_fldK K rfl (pv 0) rfl) (pa_cons (pe_fldK K rfl (pv 0) rfl) (pa_cons (pe_fldK K rfl (pv 0) rfl) (pa_cons (pe_callO G_kept_from (hr.mono (by decide)) rfl (pa_cons (pe_ix (ix_listK K rfl) (pv 2) pe_int (fun _ _ => rfl)) pa_nil)) pa_nil)))))) (pss_one (ps_ret (pe_op op_cat (pe_lst (pa_cons pe_int pa_nil)) (pe_callO G_lowest_terms (hr.mono (by decide)) rfl (pa_cons (pe_ix (ix_listK K rfl) (pe_fldK K rfl (pv 3) rfl) (pe_fldK K rfl (pv 0) rfl) (fun _ _ => rfl)) (pa_cons (pe_fldK K rfl (pv 3) rfl) pa_nil)))))))), ?_⟩
    obtain ⟨dx, fs, fa, wa, h1, h2, h3, h4, h5, h6⟩ := id hp
    obtain ⟨r, ras, hr1, hr2, hr3⟩ := rowH_at hro hrows
    have hstep : (Vbahal.step st (.mean d)).2 = if d.length + 1 ≠ st.classes.length then [-7] else Vbahal.ok (Vbahal.frac ((meanWith st.seats d 0 1 (zeros st.seats) st.classes).2.getD st.seats 0) (meanWith st.seats d 0 1 (zeros st.seats) st.classes).1) := by
      show (Vbahal.has st 0 _).2 = _
      rw [has_ok hk]
      split <;> rfl
    rw [hstep] at q
    refine ⟨_, rfl, ro, _, _, _, rfl, rfl, SqL.of hr1, hr2, r, _, rfl, .inl (SqL.of hr3), _, rfl, p, CP, dx, fs, _, rfl, h1, T.cP, T.p_fares, h3, fa, _, rfl, .inl h5, _, _, rfl, rfl, rfl, _, rfl, ?_⟩
    have el : (((NL (st.classes.map (·.fare))).length : Nat) : Int) - 1 = ((st.classes.length - 1 : Nat) : Int) := by rw [NL_len, List.length_map]; omega
    show (if (!decide (V.int (((NL d).length : Nat) : Int) = V.int ((((NL (st.classes.map (·.fare))).length : Nat) : Int) - 1))) = true then _ else _)
    rw [el, NL_len, ne_len]
    refine ite2 (fun hc => ?_) (fun hc => ?_)
    · have hc := of_decide_eq_true hc
      rw [if_pos (by omega)] at q
      refine ⟨_, rfl, (by show 1 ≤ sizeLine; decide), fun l hl => ?_⟩
      exact q _ l (Same.upd_new hl) hl upd_same
    · have hc : d.length = st.classes.length - 1 := by
        by_cases e : d.length = st.classes.length - 1
        · exact e
        · exact absurd (decide_eq_true e) hc
      have hc1 : d.length + 1 = st.classes.length := by omega
      rw [if_neg (by simp [hc1]), ok_NL] at q
      have hlen := ok.len
      refine ⟨_, rfl, p, CP, dx, fs, _, rfl, h1, T.cP, T.p_fares, h3, _, rfl, p, CP, dx, fs, _, rfl, h1, T.cP, T.p_weights, h4, _, rfl, p, CP, dx, fs, _, rfl, h1, T.cP, T.p_seats, h2, ?_⟩
      refine ⟨_, rfl, ro, _, _, _, rfl, rfl, SqL.of hr1, hr2, r, d, rfl, hr3, hdl, fun H3 l3 s3 hn3 hl3 => ?_⟩
      refine ⟨fa, wa, l3, st.seats, st.classes, d, rfl, s3.seq h5, h6.same s3, SqL.of hl3, ok.seats, by omega, hc1, fun c hc => (ok.cls c hc).ok, fun H4 l4 s4 hW => ?_⟩
      obtain ⟨m1, m2, m3⟩ := meanWith_unit st.seats d st.classes 0 1 (zeros st.seats) (by decide) (by simp [zeros]) ok.cls
      rw [Nat.one_mul] at m2
      generalize ht : meanWith st.seats d 0 1 (zeros st.seats) st.classes = t at *
      obtain ⟨la, ⟨dw, gs, g1, g2, g3⟩, g4⟩ := hW
      have s34 := s3.trans s4
      refine ⟨(by show 1 ≤ sizeLine; decide), fun l0 hl0 => ?_⟩
      have s5 : Same H4 (upd H4 l0 (.lst [V.int 0])) := Same.upd_new hl0
      refine ⟨_, rfl, l4, CW, dw, gs, _, rfl, s5 _ _ g1, T.cW, T.w_above, g2, _, rfl, p, CP, dx, fs, _, rfl, s5 _ _ (s34 _ _ h1), T.cP, T.p_seats, h2, la, _, _, _, rfl, rfl, SqL.of (s5 _ _ g4), NL_getD (by omega), _, rfl, l4, CW, dw, gs, _, rfl, s5 _ _ g1, T.cW, T.w_below, g3, ?_⟩
      refine ⟨t.2.getD st.seats 0, t.1, rfl, m1, unit_small m2 hlen, fun H6 l6 s6 hn6 hl6 => ?_⟩
      refine ⟨l0, l6, _, _, rfl, rfl, s6 _ _ upd_same, hl6, (by show 3 ≤ sizeLine; decide), fun l7 hl7 => ?_⟩
      refine q _ l7 (((s34.trans s5).trans s6).trans (Same.upd_new hl7)) (((s34.trans s5).trans s6).free hl7) ?_
      rw [upd_same]
      rfl
end
end Ks
namespace Ks
open PySem PySem.Spec PyProof.Rows L2
section
variable {X : Cx}
theorem pe_globR {x : Str} {a : Addr} {pos : Pos} (hg : Gl X x) (hm : X.mg x = some (.ref a)) (hd : (x == ("__debug__" : Str)) = false := by decide) : PE X (.Name x pos) (tC (.ref a)) := pe_glob hg hm rfl hd
theorem pe_globI {x : Str} {i : Int} {pos : Pos} (hg : Gl X x) (hm : ∃ t, X.mg x = some (.int i t)) (hd : (x == ("__debug__" : Str)) = false := by decide) : PE X (.Name x pos) (tC (.int i)) := by
  obtain ⟨t, h⟩ := hm
  exact pe_glob hg h ⟨t, rfl⟩ hd
end
def IL (l : List Int) : List V := l.map V.int
theorem IL_len (l : List Int) : (IL l).length = l.length := List.length_map ..
theorem IL_get {l : List Int} {i : Nat} {x : V} (h : (IL l)[i]? = some x) : ∃ n, l[i]? = some n ∧ x = .int n := by
  unfold IL at h
  rw [List.getElem?_map] at h
  cases e : l[i]? with
  | none => rw [e] at h; cases h
  | some n => rw [e] at h; exact ⟨n, rfl, (Option.some.inj h).symm⟩
theorem IL_at {l : List Int} {i : Nat} {n : Int} (h : l[i]? = some n) : atI (IL l) (i : Int) = some (.int n) := by
  refine atI_nat ?_
  unfold IL
  rw [List.getElem?_map, h]
  rfl
theorem IL_nat (l : List Nat) : IL (l.map fun n : Nat => (n : Int)) = NL l := by
  unfold IL NL
  rw [List.map_map]
  rfl
def KT (K : PySem.W.Frag) (a : Addr) (xs : List V) : Prop := ∃ (o : Obj) (its : Array Value) (n : Nat), K.lookup a = some o ∧ o.cls = .type "tuple" ∧ o.data = .seq its n ∧ its.size ≤ sizeLine ∧ Vals xs its.toList
theorem KT.sq {K : PySem.W.Frag} {a : Addr} {xs : List V} {H : Hp} (h : KT K a xs) : SqT K H a xs := .inr h
abbrev Form := List (Int × Int) × List (Int × Int × Int × Int)
structure FormAt (K : PySem.W.Frag) (a : Addr) (f : Form) : Prop where
  ex : ∃ (aa ra : Addr) (as rs : List Addr), KT K a [.ref aa, .ref ra] ∧ KT K aa (as.map V.ref) ∧ KT K ra (rs.map V.ref) ∧ as.length = f.1.length ∧ rs.length = f.2.length ∧
    (∀ (j : Nat) (b : Addr) (p : Int × Int), as[j]? = some b → f.1[j]? = some p → KT K b [.int p.1, .int p.2]) ∧ (∀ (j : Nat) (b : Addr) (p : Int × Int × Int × Int), rs[j]? = some b → f.2[j]? = some p → KT K b [.int p.1, .int p.2.1, .int p.2.2.1, .int p.2.2.2])
def FormsAt (K : PySem.W.Frag) (a : Addr) (fs : List Form) : Prop := ∃ as : List Addr, KT K a (as.map V.ref) ∧ as.length = fs.length ∧ ∀ (j : Nat) (b : Addr) (f : Form), as[j]? = some b → fs[j]? = some f → FormAt K b f
def CAt (CC : Addr) (H : Hp) (c : Addr) (pl : Int) (nu ro : Addr) (en : Nat) : Prop :=
  ∃ dx fs, H c = some (.ins CC dx fs) ∧ fs.lookup ("place" : Str) = some (.int pl) ∧ fs.lookup ("numbers" : Str) = some (.ref nu) ∧ fs.lookup ("rows" : Str) = some (.ref ro) ∧ fs.lookup ("end" : Str) = some (nv en)
theorem CAt.same {CC : Addr} {H H' : Hp} {c nu ro : Addr} {pl : Int} {en : Nat} (h : CAt CC H c pl nu ro en) (s : Same H H') : CAt CC H' c pl nu ro en := by
  obtain ⟨dx, fs, h1, r⟩ := h
  exact ⟨dx, fs, s _ _ h1, r⟩
def inB (lo hi z : Int) : Bool := decide (lo ≤ z) && decide (z ≤ hi)
def inArgs : List Int → List (Int × Int) → Bool
  | z :: r, p :: q => inB p.1 p.2 z && inArgs r q
  | _, _ => true
def inRow (r : List Int) (b : Int × Int × Int × Int) : Bool := inB b.1 b.2.1 (r.length : Nat) && r.all (inB b.2.2.1 b.2.2.2)
def inRows : List (List Int) → List (Int × Int × Int × Int) → Bool
  | z :: r, p :: q => inRow z p && inRows r q
  | _, _ => true
def RowsI (H : Hp) (ro : Addr) (as : List Addr) (rows : List (List Int)) : Prop := H ro = some (.lst (as.map V.ref)) ∧ as.length = rows.length ∧ ∀ (j : Nat) (a : Addr) (r : List Int), as[j]? = some a → rows[j]? = some r → H a = some (.lst (IL r))
theorem RowsI.same {H H' : Hp} {ro : Addr} {as : List Addr} {rows : List (List Int)} (h : RowsI H ro as rows) (s : Same H H') : RowsI H' ro as rows := ⟨s _ _ h.1, h.2.1, fun j a r e1 e2 => s _ _ (h.2.2 j a r e1 e2)⟩
section
variable {P : Program} {w : World} {K : PySem.W.Frag} {mg : Str → Option Value} {base : Heap} {CW CC CP FA : Addr} {forms : List Form}
def spInitC (CC : Addr) : Sp := fun vs H Q _ => ∃ (p dx nu ro : Addr) (pl : Int) (en : Nat), vs = [.ref p, .int pl, .ref nu, .ref ro, nv en] ∧ H p = some (.ins CC dx []) ∧
  ∀ H' : Hp, CAt CC H' p pl nu ro en → (∀ b o, H b = some o → b ≠ p → H' b = some o) → Q .non H'
theorem ok_init_Call (F : ClIn K mg "Call" "Call.__init__" s_init_Call ["self", "place", "numbers", "rows", "end"] CC) (T : Txt K mg CW CC CP) : ClDo P w K mg base 1 "Call" ["self", "place", "numbers", "rows", "end"] CC (spInitC CC) := by
  refine F.doIt sc_init_Call (fun vs H Q E h => ?_) (fun f cdv A outer s H vs Q E hr h => ?_)
  · obtain ⟨p, dx, nu, ro, pl, en, rfl, _⟩ := h
    rfl
  · obtain ⟨p, dx, nu, ro, pl, en, rfl, hp, k⟩ := h
    refine ⟨_, (pss_cons (ps_fld (pv 0) (pv 1) rfl) (pss_cons (ps_fld (pv 0) (pv 2) rfl) (pss_cons (ps_fld (pv 0) (pv 3) rfl) (pss_one (ps_fld (pv 0) (pv 4) rfl))))), ?_⟩
    refine ⟨_, rfl, _, rfl, p, CC, dx, [], rfl, hp, T.cC, T.c_place, (by show 0 < 1000; decide), ?_⟩
    refine ⟨_, rfl, _, rfl, p, CC, dx, _, rfl, upd_same, T.cC, T.c_numbers, (by show 1 < 1000; decide), ?_⟩
    refine ⟨_, rfl, _, rfl, p, CC, dx, _, rfl, upd_same, T.cC, T.c_rows, Nat.lt_of_le_of_lt (len_putF _ _ _) (by show 2 < 1000; decide), ?_⟩
    refine ⟨_, rfl, _, rfl, p, CC, dx, _, rfl, upd_same, T.cC, T.c_end, Nat.lt_of_le_of_lt (Nat.le_trans (len_putF _ _ _) (Nat.add_le_add_right (len_putF _ _ _) 1)) (by show 3 < 1000; decide), ?_⟩
    refine k _ ⟨dx, _, upd_same, ?_, ?_, ?_, ?_⟩ fun b o e hb => by rw [upd_ne hb, upd_ne hb, upd_ne hb, upd_ne hb]; exact e
    · rw [lookup_putF, if_neg (by decide +kernel), lookup_putF, if_neg (by decide +kernel), lookup_putF, if_neg (by decide +kernel), lookup_putF, if_pos rfl]
    · rw [lookup_putF, if_neg (by decide +kernel), lookup_putF, if_neg (by decide +kernel), lookup_putF, if_pos rfl]
    · rw [lookup_putF, if_neg (by decide +kernel), lookup_putF, if_pos rfl]
    · rw [lookup_putF, if_pos rfl]
def spInRanges (CC : Addr) (forms : List Form) : Sp := fun vs H Q _ => ∃ (c nu ro : Addr) (as : List Addr) (pl en : Nat) (f : Form) (ns : List Int) (rows : List (List Int)), vs = [.ref c] ∧ CAt CC H c pl nu ro en ∧ H nu = some (.lst (IL ns)) ∧ RowsI H ro as rows ∧ forms[pl]? = some f ∧
  ns.length = f.1.length ∧ rows.length = f.2.length ∧ (∀ r ∈ rows, r.length ≤ 1000) ∧ ∀ H' : Hp, Same H H' → Q (.bl (inArgs ns f.1 && inRows rows f.2)) H'
theorem inArgs_false : ∀ (a : List Int) (b : List (Int × Int)) (j : Nat) (z : Int) (p : Int × Int), a[j]? = some z → b[j]? = some p → inB p.1 p.2 z = false → inArgs a b = false
  | x :: a, y :: b, 0, z, p, h1, h2, h => by
    cases h1
    cases h2
    show (inB _ _ _ && _) = false
    rw [h]
    rfl
  | x :: a, y :: b, j + 1, z, p, h1, h2, h => by
    show (inB y.1 y.2 x && inArgs a b) = false
    rw [inArgs_false a b j z p (by simpa using h1) (by simpa using h2) h, Bool.and_false]
theorem inRows_false : ∀ (a : List (List Int)) (b : List (Int × Int × Int × Int)) (j : Nat) (z : List Int) (p : Int × Int × Int × Int), a[j]? = some z → b[j]? = some p → inRow z p = false → inRows a b = false
  | x :: a, y :: b, 0, z, p, h1, h2, h => by
    cases h1
    cases h2
    show (inRow _ _ && _) = false
    rw [h]
    rfl
  | x :: a, y :: b, j + 1, z, p, h1, h2, h => by
    show (inRow x y && inRows a b) = false
    rw [inRows_false a b j z p (by simpa using h1) (by simpa using h2) h, Bool.and_false]
theorem inArgs_true : ∀ (a : List Int) (b : List (Int × Int)), (∀ (j : Nat) (z : Int) (p : Int × Int), a[j]? = some z → b[j]? = some p → inB p.1 p.2 z = true) → inArgs a b = true
  | [], [], _ => rfl
  | [], _ :: _, _ => rfl
  | _ :: _, [], _ => rfl
  | x :: a, y :: b, h => by
    show (inB y.1 y.2 x && inArgs a b) = true
    rw [h 0 x y rfl rfl, inArgs_true a b fun j z p e1 e2 => h (j + 1) z p (by simpa using e1) (by simpa using e2)]
    rfl
theorem inRows_true : ∀ (a : List (List Int)) (b : List (Int × Int × Int × Int)), (∀ (j : Nat) (z : List Int) (p : Int × Int × Int × Int), a[j]? = some z → b[j]? = some p → inRow z p = true) → inRows a b = true
  | [], [], _ => rfl
  | [], _ :: _, _ => rfl
  | _ :: _, [], _ => rfl
  | x :: a, y :: b, h => by
    show (inRow x y && inRows a b) = true
    rw [h 0 x y rfl rfl, inRows_true a b fun j z p e1 e2 => h (j + 1) z p (by simpa using e1) (by simpa using e2)]
    rfl
theorem ok_in_ranges (F : FnIn K mg "in_ranges" s_in_ranges ["call"]) (T : Txt K mg CW CC CP) (g_FORMS : mg "FORMS" = some (.ref FA)) (hF : FormsAt K FA forms) : FnDo P w K mg base 1 "in_ranges" s_in_ranges ["call"] (spInRanges CC forms) := by
  refine F.doIt sc_in_ranges (fun vs H Q E h => ?_) (fun f cdv A outer s H vs Q E hr h => ?_)
  · obtain ⟨c, nu, ro, as, pl, en, f, ns, rows, rfl, _⟩ := h
    rfl
  · obtain ⟨c, nu, ro, as, pl, en, fm, ns, rows, rfl, ⟨dx, fs, h1, h2, h3, h4, h5⟩, hnu, ⟨r1, r2, r3⟩, hfm, hl1, hl2, hrl, q⟩ := h
    refine ⟨_, (pss_cons (ps_set (i := 1) sc_in_ranges.nd rfl (by first | exact Or.inl rfl | exact Or.inr rfl) (pe_ix (ix_tupK K rfl) (pe_globR rfl g_FORMS) (pe_fldK K rfl (pv 0) rfl) (fun _ _ => rfl))) (pss_cons (ps_for PassesOwn.never rfl (pi_zipLTK K rfl rfl T.no_zip (pa_cons (pe_fldK K rfl (pv 0) rfl) (pa_cons (pe_ix (ix_tupK K rfl) (pv 1) pe_int (fun _ _ => rfl)) pa_nil))) (pg_tupK K (n := 2) rfl rfl (pgs_cons (pg_name (i := 2) sc_in_ranges.nd rfl (by first | exact Or.inl rfl | exact Or.inr rfl)) (pgs_cons (pg_name (i := 3) sc_in_ranges.nd rfl (by first | exact Or.inl rfl | exact Or.inr rfl)) pgs_nil))) (pss_one (ps_if (pt_not (pt_chain op_le op_le (pe_ix (ix_tupK K rfl) (pv 3) pe_int (fun _ _ => rfl)) (pv 2) (pe_ix (ix_tupK K rfl) (pv 3) pe_int (fun _ _ => rfl)))) (pss_one (ps_ret pe_bl)) pss_nil))) (pss_cons (ps_for PassesOwn.never rfl (pi_zipLTK K rfl rfl T.no_zip (pa_cons (pe_fldK K rfl (pv 0) rfl) (pa_cons (pe_ix (ix_tupK K rfl) (pv 1) pe_int (fun _ _ => rfl)) pa_nil))) (pg_tupK K (n := 2) rfl rfl (pgs_cons (pg_name (i := 4) sc_in_ranges.nd rfl (by first | exact Or.inl rfl | exact Or.inr rfl)) (pgs_cons (pg_name (i := 3) sc_in_ranges.nd rfl (by first | exact Or.inl rfl | exact Or.inr rfl)) pgs_nil))) (pss_cons (ps_if (pt_not (pt_chain op_le op_le (pe_ix (ix_tupK K rfl) (pv 3) pe_int (fun _ _ => rfl)) (pe_callB (call_lenK K rfl) (by rfl) T.no_len PySem.boot_len (pa_cons (pv 4) pa_nil)) (pe_ix (ix_tupK K rfl) (pv 3) pe_int (fun _ _ => rfl)))) (pss_one (ps_ret pe_bl)) pss_nil) (pss_one (ps_if (pt_not (pt_val (pe_callB (cr_allK K rfl rfl) (by rfl) T.no_all boot_all (pa_cons (pe_lc rfl sc_in_ranges.nd (pi_listK K rfl (pv 4)) (blkOk_by (own := [("number", 2)]) rfl) (fun _ _ _ _ _ => (pg_name (i := 2) sc_in_ranges.nd rfl (by first | exact Or.inl rfl | exact Or.inr rfl))) (fun _ _ _ _ _ => pts_nil) (fun _ _ _ _ _ => (pe_chain op_le op_le (pe_ix (ix_tupK K rfl) (pv 3) pe_int (fun _ _ => rfl)) (pv 2) (pe_ix (ix_tupK K rfl) (pv 3) pe_int (fun _ _ => rfl))))) pa_nil)))) (pss_one (ps_ret pe_bl)) pss_nil)))) (pss_one (ps_ret pe_bl))))), ?_⟩
    obtain ⟨fas, hfas, hfal, hfat⟩ := hF
    have hpl : pl < forms.length := (List.getElem?_eq_some_iff.mp hfm).1
    obtain ⟨fa, hfa⟩ : ∃ fa, fas[pl]? = some fa := ⟨_, List.getElem?_eq_getElem (by omega)⟩
    obtain ⟨aa, ra, ats, rts, k1, k2, k3, k4, k5, k6, k7⟩ := (hfat pl fa fm hfa hfm).ex
    refine ⟨_, rfl, c, CC, dx, fs, _, rfl, h1, T.cC, T.c_place, h2, FA, _, _, V.ref fa, rfl, rfl, hfas.sq, atI_nat (by rw [List.getElem?_map, hfa]; rfl), ?_⟩
    refine ⟨_, rfl, c, CC, dx, fs, _, rfl, h1, T.cC, T.c_numbers, h3, _, rfl, fa, _, _, V.ref aa, rfl, rfl, k1.sq, atI_nat (j := 0) rfl, nu, aa, _, _, rfl, SqL.of hnu, k2.sq, for_zipLT (K := K) (a := nu) (b := aa) (xs := IL ns) (ys := ats.map V.ref) (by rw [IL_len, List.length_map]; omega)
      (fun i σ H' => ∃ (v1 v2 : Option V), σ = [some (.ref c), some (.ref fa), v1, v2, none] ∧ Same H H' ∧ ∀ (j : Nat) (z : Int) (p : Int × Int), j < i → ns[j]? = some z → fm.1[j]? = some p → inB p.1 p.2 z = true)
      ⟨none, none, rfl, Same.refl H, fun j z p h => by omega⟩ (fun i σ H' _ ⟨_, _, _, s5, _⟩ => ⟨s5.seq (SqL.of hnu), k2.sq⟩) ?_ ?_⟩
    · rintro i x y Tt σ H' hx hy hT ⟨v1, v2, rfl, s5, hin⟩
      obtain ⟨z, hz, rfl⟩ := IL_get hx
      have hi : i < ns.length := (List.getElem?_eq_some_iff.mp hz).1
      obtain ⟨b, hb, rfl⟩ : ∃ b, ats[i]? = some b ∧ y = V.ref b := by
        rw [List.getElem?_map] at hy
        cases e : ats[i]? with
        | none => rw [e] at hy; cases hy
        | some a => rw [e] at hy; exact ⟨a, rfl, (Option.some.inj hy).symm⟩
      obtain ⟨p, hp⟩ : ∃ p, fm.1[i]? = some p := ⟨_, List.getElem?_eq_getElem (by omega)⟩
      have kb := k6 i b p hb hp
      have s6 : Same H (upd H' Tt (.tup [V.int z, V.ref b])) := s5.trans (Same.upd_new hT)
      refine ⟨Tt, _, rfl, .inl (.inl upd_same), rfl, _, _, rfl, _, _, rfl, rfl, ?_⟩
      refine ⟨_, rfl, b, _, _, _, rfl, rfl, kb.sq, atI_nat (j := 0) rfl, _, rfl, _, _, rfl, rfl, _, rfl, ?_⟩
      have bad : inB p.1 p.2 z = false → Q (.bl false) (upd H' Tt (.tup [V.int z, V.ref b])) := fun hb => by
        have := q _ s6
        rw [inArgs_false ns fm.1 i z p hz hp hb] at this
        exact this
      refine ite2 (fun hc1 => ?_) (fun hc1 => ?_)
      · refine ⟨_, rfl, b, _, _, _, rfl, rfl, kb.sq, atI_nat (j := 1) rfl, _, _, rfl, rfl, _, rfl, ?_⟩
        refine ite2 (fun hc2 => ?_) (fun hc2 => ?_)
        · refine bad ?_
          have hc2 : decide (z ≤ p.2) = false := by simpa using hc2
          unfold inB
          rw [hc2, Bool.and_false]
        · have hc2 : decide (z ≤ p.2) = true := by simpa using hc2
          refine ⟨some (V.int z), some (V.ref b), rfl, s6, fun j z' p' hj e1 e2 => ?_⟩
          by_cases hji : j = i
          · subst hji
            rw [hz] at e1
            rw [hp] at e2
            cases e1
            cases e2
            unfold inB
            rw [hc1, hc2]
            rfl
          · exact hin j z' p' (by omega) e1 e2
      · have hc1 : decide (p.1 ≤ z) = false := by simpa using hc1
        refine ⟨_, rfl, ?_⟩
        refine bad ?_
        unfold inB
        rw [hc1, Bool.false_and]
    · rintro σ H1 ⟨v1, v2, rfl, s1, hin⟩
      rw [IL_len] at hin
      have hargs : inArgs ns fm.1 = true := inArgs_true ns fm.1 fun j z p e1 e2 => hin j z p (List.getElem?_eq_some_iff.mp e1).1 e1 e2
      rw [hargs] at q
      refine ⟨_, rfl, c, CC, dx, fs, _, rfl, s1 _ _ h1, T.cC, T.c_rows, h4, _, rfl, fa, _, _, V.ref ra, rfl, rfl, k1.sq, atI_nat (j := 1) rfl, ro, ra, _, _, rfl, SqL.of (s1 _ _ r1), k3.sq, for_zipLT (K := K) (a := ro) (b := ra) (xs := as.map V.ref) (ys := rts.map V.ref) (by rw [List.length_map, List.length_map]; omega)
        (fun i σ H' => ∃ (v1 v2 v3 : Option V), σ = [some (.ref c), some (.ref fa), v1, v2, v3] ∧ Same H H' ∧ ∀ (j : Nat) (z : List Int) (p : Int × Int × Int × Int), j < i → rows[j]? = some z → fm.2[j]? = some p → inRow z p = true)
        ⟨v1, v2, none, rfl, s1, fun j z p h => by omega⟩ (fun i σ H' _ ⟨_, _, _, _, s5, _⟩ => ⟨s5.seq (SqL.of r1), k3.sq⟩) ?_ ?_⟩
      · rintro i x y Tt σ H' hx hy hT ⟨v1, v2, v3, rfl, s5, hin2⟩
        obtain ⟨ra1, hra1, rfl⟩ : ∃ b, as[i]? = some b ∧ x = V.ref b := by
          rw [List.getElem?_map] at hx
          cases e : as[i]? with
          | none => rw [e] at hx; cases hx
          | some a => rw [e] at hx; exact ⟨a, rfl, (Option.some.inj hx).symm⟩
        obtain ⟨b, hb, rfl⟩ : ∃ b, rts[i]? = some b ∧ y = V.ref b := by
          rw [List.getElem?_map] at hy
          cases e : rts[i]? with
          | none => rw [e] at hy; cases hy
          | some a => rw [e] at hy; exact ⟨a, rfl, (Option.some.inj hy).symm⟩
        have hi : i < as.length := (List.getElem?_eq_some_iff.mp hra1).1
        obtain ⟨z, hz⟩ : ∃ z, rows[i]? = some z := ⟨_, List.getElem?_eq_getElem (by omega)⟩
        obtain ⟨p, hp⟩ : ∃ p, fm.2[i]? = some p := ⟨_, List.getElem?_eq_getElem (by omega)⟩
        have hzr := r3 i ra1 z hra1 hz
        have hzl := hrl z (List.mem_of_getElem? hz)
        have kb := k7 i b p hb hp
        have s6 : Same H (upd H' Tt (.tup [V.ref ra1, V.ref b])) := s5.trans (Same.upd_new hT)
        have bad : ∀ H2, Same H H2 → inRow z p = false → Q (.bl false) H2 := fun H2 s2 hb => by
          have := q _ s2
          rw [inRows_false rows fm.2 i z p hz hp hb] at this
          exact this
        refine ⟨Tt, _, rfl, .inl (.inl upd_same), rfl, _, _, rfl, _, _, rfl, rfl, ?_⟩
        refine ⟨_, rfl, b, _, _, _, rfl, rfl, kb.sq, atI_nat (j := 0) rfl, _, rfl, ra1, _, rfl, .inl (SqL.of (s6 _ _ hzr)), _, _, rfl, rfl, _, rfl, ?_⟩
        rw [IL_len]
        refine ite2 (fun hc1 => ?_) (fun hc1 => ?_)
        · refine ⟨_, rfl, b, _, _, _, rfl, rfl, kb.sq, atI_nat (j := 1) rfl, _, _, rfl, rfl, _, rfl, ?_⟩
          refine ite2 (fun hc2 => ?_) (fun hc2 => ?_)
          · refine bad _ s6 ?_
            have hc2 : decide (((z.length : Nat) : Int) ≤ p.2.1) = false := by simpa using hc2
            unfold inRow inB
            rw [hc2, Bool.and_false, Bool.false_and]
          · have hc2 : decide (((z.length : Nat) : Int) ≤ p.2.1) = true := by simpa using hc2
            refine ⟨_, rfl, ra1, rfl, ⟨_, SqL.of (s6 _ _ hzr)⟩, ?_⟩
            intro D hD
            refine lc_list (K := K) (a := ra1) (xs := IL z) (fun j Hj => Same (upd H' Tt (.tup [V.ref ra1, V.ref b])) Hj ∧ Hj D = some (.lst (((z.take j).map (inB p.2.2.1 p.2.2.2)).map V.bl))) ⟨Same.upd_new hD, upd_same⟩ (fun j Hj _ ⟨s8, _⟩ => SqL.of (s8 _ _ (s6 _ _ hzr))) ?_ ?_
            · rintro j xj Hj hxj ⟨s8, hDj⟩
              obtain ⟨y, hy, rfl⟩ := IL_get hxj
              have hj : j < z.length := (List.getElem?_eq_some_iff.mp hy).1
              refine ⟨rfl, tYes_i ?_⟩
              refine ⟨_, rfl, b, _, _, _, rfl, rfl, kb.sq, atI_nat (j := 2) rfl, _, rfl, _, _, rfl, rfl, _, rfl, ?_⟩
              have fin : ∀ v : Bool, v = inB p.2.2.1 p.2.2.2 y → ∃ acc, Hj D = some (.lst acc) ∧ acc.length < sizeLine ∧ Same (upd H' Tt (.tup [V.ref ra1, V.ref b])) (upd Hj D (.lst (acc ++ [V.bl v]))) ∧ upd Hj D (.lst (acc ++ [V.bl v])) D = some (.lst (((z.take (j + 1)).map (inB p.2.2.1 p.2.2.2)).map V.bl)) := by
                intro v hv
                subst hv
                refine ⟨_, hDj, ?_, fun b o e => by rw [upd_ne (ne_of_none e hD)]; exact s8 _ _ e, ?_⟩
                · rw [List.length_map, List.length_map, List.length_take]
                  show min j _ < 16777216
                  omega
                · rw [upd_same, take_snoc hy, List.map_append, List.map_append]
                  rfl
              refine ite2 (fun hd1 => ?_) (fun hd1 => ?_)
              · refine ⟨_, rfl, b, _, _, _, rfl, rfl, kb.sq, atI_nat (j := 3) rfl, _, _, rfl, rfl, ?_⟩
                refine fin _ ?_
                unfold inB
                rw [hd1]
                rfl
              · refine fin _ ?_
                have hd1 : decide (p.2.2.1 ≤ y) = false := by simpa using hd1
                unfold inB
                rw [hd1]
                rfl
            · rintro Hj ⟨s8, hDj⟩
              rw [IL_len, List.take_length] at hDj
              refine ⟨D, _, rfl, SqL.of hDj, _, rfl, ?_⟩
              have eall : (z.map (inB p.2.2.1 p.2.2.2)).all id = z.all (inB p.2.2.1 p.2.2.2) := by rw [List.all_map]; rfl
              rw [eall]
              have hrow : inRow z p = z.all (inB p.2.2.1 p.2.2.2) := by
                unfold inRow
                have : inB p.1 p.2.1 ((z.length : Nat) : Int) = true := by unfold inB; rw [hc1, hc2]; rfl
                rw [this, Bool.true_and]
              refine ite2 (fun hc3 => ?_) (fun hc3 => ?_)
              · exact bad _ (s6.trans s8) (by rw [hrow]; simpa using hc3)
              · refine ⟨v1, some (V.ref b), some (V.ref ra1), rfl, s6.trans s8, fun j z' p' hj e1 e2 => ?_⟩
                by_cases hji : j = i
                · subst hji
                  rw [hz] at e1
                  rw [hp] at e2
                  cases e1
                  cases e2
                  rw [hrow]
                  simpa using hc3
                · exact hin2 j z' p' (by omega) e1 e2
        · have hc1 : decide (p.1 ≤ ((z.length : Nat) : Int)) = false := by simpa using hc1
          refine ⟨_, rfl, ?_⟩
          refine bad _ s6 ?_
          unfold inRow inB
          rw [hc1, Bool.false_and, Bool.false_and]
      · rintro σ H2 ⟨v1, v2, v3, rfl, s2, hin2⟩
        rw [List.length_map] at hin2
        have hrows : inRows rows fm.2 = true := inRows_true rows fm.2 fun j z p e1 e2 => hin2 j z p (by have := (List.getElem?_eq_some_iff.mp e1).1; omega) e1 e2
        have := q H2 s2
        rw [hrows] at this
        exact this
end
end Ks
namespace Ks
open PySem PySem.Spec PyProof.Rows L2
theorem cut_mid {xs : List V} {a b : Nat} (h1 : a ≤ b) (h2 : b ≤ xs.length) : cutV xs (some (a : Int)) (some (b : Int)) = (xs.drop a).take (b - a) := by
  unfold cutV
  rw [HT.sIx_nat, HT.sIx_nat, Nat.min_eq_left (show a ≤ xs.length by omega), Nat.min_eq_left h2]
theorem IL_cut {l : List Int} {a b : Nat} (h1 : a ≤ b) (h2 : b ≤ l.length) : cutV (IL l) (some (a : Int)) (some (b : Int)) = IL ((l.drop a).take (b - a)) := by
  rw [cut_mid h1 (by rw [IL_len]; exact h2)]
  unfold IL
  rw [← List.map_drop, ← List.map_take]
theorem drop_cons {l : List Int} {j : Nat} {p : Int} {r : List Int} (h : l.drop j = p :: r) : l[j]? = some p ∧ l.drop (j + 1) = r ∧ j < l.length := by
  have hj : j < l.length := by
    have := congrArg List.length h
    rw [List.length_drop, List.length_cons] at this
    omega
  rw [List.drop_eq_getElem_cons hj] at h
  obtain ⟨h1, h2⟩ := List.cons.inj h
  exact ⟨by rw [List.getElem?_eq_getElem hj, h1], h2, hj⟩
theorem call_inv {sh : Int → Option (Nat × Nat)} {p : Int} {r t : List Int} {cl : List (List Int)} (h : PyFlat.call sh (p :: r) = some (cl, t)) :
    ∃ (n k : Nat) (xs : List (List Int)), sh p = some (n, k) ∧ n ≤ r.length ∧ PyFlat.rows k (r.drop n) = some (xs, t) ∧ cl = (p :: r.take n) :: xs := by
  simp only [PyFlat.call] at h
  split at h
  · cases h
  · rename_i n k hs
    split at h
    · cases h
    · rename_i hn
      split at h
      · cases h
      · rename_i xs t' hr
        cases h
        exact ⟨n, k, xs, hs, by omega, hr, rfl⟩
theorem rows_len : ∀ {k : Nat} {l t : List Int} {xs : List (List Int)}, PyFlat.rows k l = some (xs, t) → xs.length = k
  | 0, l, t, xs, h => by
    simp only [PyFlat.rows] at h
    cases h
    rfl
  | k + 1, l, t, xs, h => by
    simp only [PyFlat.rows] at h
    split at h
    · cases h
    · split at h
      · cases h
      · rename_i ys t' hr
        cases h
        rw [List.length_cons, rows_len hr]
theorem rows_succ {k : Nat} {l t : List Int} {xs : List (List Int)} (h : PyFlat.rows (k + 1) l = some (xs, t)) :
    ∃ (z : Int) (r : List Int) (ys : List (List Int)), l = z :: r ∧ 0 ≤ z ∧ z.toNat ≤ r.length ∧ PyFlat.rows k (r.drop z.toNat) = some (ys, t) ∧ xs = r.take z.toNat :: ys := by
  simp only [PyFlat.rows] at h
  split at h
  · cases h
  · rename_i x s hrow
    split at h
    · cases h
    · rename_i ys t' hr
      cases h
      cases l with
      | nil => cases hrow
      | cons z r =>
        simp only [PyFlat.row] at hrow
        split at hrow
        · rename_i hz
          cases hrow
          exact ⟨z, r, ys, rfl, hz.1, hz.2, hr, rfl⟩
        · cases hrow
section
variable {P : Program} {w : World} {K : PySem.W.Frag} {mg : Str → Option Value} {base : Heap} {CW CC CP FA : Addr} {forms : List Form}
def ShapeOk (forms : List Form) : Prop := ∀ (p : Int) (n k : Nat), PyVbahal.shape p = some (n, k) → 0 ≤ p ∧ ∃ f, forms[p.toNat]? = some f ∧ f.1.length = n ∧ f.2.length = k ∧ k ≤ 1
def spRead (K : PySem.W.Frag) (CC : Addr) (forms : List Form) : Sp := fun vs H Q _ => ∃ (ca : Addr) (j : Nat) (ns : List Int) (cl : List (List Int)) (t : List Int), vs = [.ref ca, nv j] ∧ SqL K H ca (IL ns) ∧ ns.length ≤ 1000000 ∧ PyFlat.call PyVbahal.shape (ns.drop j) = some (cl, t) ∧
  ∀ (H' : Hp) (c nu ro : Addr) (as : List Addr) (pl en : Nat) (f : Form) (args : List Int) (rows : List (List Int)), cl = ((pl : Int) :: args) :: rows → PyVbahal.shape (pl : Int) = some (args.length, rows.length) → forms[pl]? = some f → args.length = f.1.length → rows.length = f.2.length → Same H H' → CAt CC H' c pl nu ro en →
    H' nu = some (.lst (IL args)) → H nu = none → RowsI H' ro as rows → (∀ a ∈ as, H a = none) → H ro = none → H c = none → j < en → en ≤ ns.length → ns.drop en = t → Q (.ref c) H'
theorem ok_read_call (F : FnIn K mg "read_call" s_read_call ["calls", "start"]) (T : Txt K mg CW CC CP) (g_FORMS : mg "FORMS" = some (.ref FA)) (hF : FormsAt K FA forms) (hS : ShapeOk forms) (GI_Call : ClDo P w K mg base 1 "Call" ["self", "place", "numbers", "rows", "end"] CC (spInitC CC)) :
    FnDo P w K mg base 3 "read_call" s_read_call ["calls", "start"] (spRead K CC forms) := by
  refine F.doIt sc_read_call (fun vs H Q E h => ?_) (fun f cdv A outer s H vs Q E hr h => ?_)
  · obtain ⟨ca, j, ns, cl, t, rfl, _⟩ := h
    rfl
  · obtain ⟨ca, j, ns, cl, t, rfl, hca, hnl, hcall, q⟩ := h
    refine ⟨_, (pss_cons (ps_set (i := 2) sc_read_call.nd rfl (by first | exact Or.inl rfl | exact Or.inr rfl) (pe_ix (ix_listK K rfl) (pv 0) (pv 1) (fun _ _ => rfl))) (pss_cons (ps_set (i := 3) sc_read_call.nd rfl (by first | exact Or.inl rfl | exact Or.inr rfl) (pe_ix (ix_tupK K rfl) (pe_globR rfl g_FORMS) (pv 2) (fun _ _ => rfl))) (pss_cons (ps_set (i := 4) sc_read_call.nd rfl (by first | exact Or.inl rfl | exact Or.inr rfl) (pe_op op_add (pe_op op_add (pv 1) pe_int) (pe_callB (call_lenK K rfl) (by rfl) T.no_len PySem.boot_len (pa_cons (pe_ix (ix_tupK K rfl) (pv 3) pe_int (fun _ _ => rfl)) pa_nil)))) (pss_cons (ps_set (i := 5) sc_read_call.nd rfl (by first | exact Or.inl rfl | exact Or.inr rfl) (pe_slice (sl_listK K rfl) (pv 0) (po_some (pe_op op_add (pv 1) pe_int)) (po_some (pv 4)))) (pss_cons (ps_set (i := 6) sc_read_call.nd rfl (by first | exact Or.inl rfl | exact Or.inr rfl) (pe_lst pa_nil)) (pss_cons (ps_while PassesOwn.never (pt_cmpR op_lt (pe_callB (call_lenK K rfl) (by rfl) T.no_len PySem.boot_len (pa_cons (pv 6) pa_nil)) (pe_callB (call_lenK K rfl) (by rfl) T.no_len PySem.boot_len (pa_cons (pe_ix (ix_tupK K rfl) (pv 3) pe_int (fun _ _ => rfl)) pa_nil)) (nomark _)) (pss_cons (ps_set (i := 7) sc_read_call.nd rfl (by first | exact Or.inl rfl | exact Or.inr rfl) (pe_op op_add (pv 4) pe_int)) (pss_cons (ps_set (i := 4) sc_read_call.nd rfl (by first | exact Or.inl rfl | exact Or.inr rfl) (pe_op op_add (pv 7) (pe_ix (ix_listK K rfl) (pv 0) (pv 4) (fun _ _ => rfl)))) (pss_one (ps_expr (pe_bm PySem.F.plainAttrs_list PySem.F.slot_list_append PySem.F.type_list_append mt_append (pv 6) (pa_cons (pe_slice (sl_listK K rfl) (pv 0) (po_some (pv 7)) (po_some (pv 4))) pa_nil))))))) (pss_one (ps_ret (pe_makeO GI_Call (hr.mono (by decide)) rfl (pa_cons (pv 2) (pa_cons (pv 5) (pa_cons (pv 6) (pa_cons (pv 4) pa_nil))))))))))))), ?_⟩
    cases hd : ns.drop j with
    | nil => rw [hd] at hcall; cases hcall
    | cons p r =>
      obtain ⟨hp, hr1, hj⟩ := drop_cons hd
      rw [hd] at hcall
      obtain ⟨n, k, xs, hsh, hrn, hrows, rfl⟩ := call_inv hcall
      obtain ⟨hp0, fm, hfm, hf1, hf2, hk1⟩ := hS p n k hsh
      obtain ⟨pl, rfl⟩ := Int.eq_ofNat_of_zero_le hp0
      rw [Int.toNat_natCast] at hfm
      obtain ⟨fas, hfas, hfal, hfat⟩ := hF
      have hpl : pl < forms.length := (List.getElem?_eq_some_iff.mp hfm).1
      obtain ⟨fa, hfa⟩ : ∃ fa, fas[pl]? = some fa := ⟨_, List.getElem?_eq_getElem (by omega)⟩
      obtain ⟨aa, ra, ats, rts, k1, k2, k3, k4, k5, k6, k7⟩ := (hfat pl fa fm hfa hfm).ex
      have hrl : r.length = ns.length - (j + 1) := by rw [← hr1, List.length_drop]
      refine ⟨_, rfl, _, rfl, ca, _, _, _, rfl, rfl, hca, IL_at hp, ?_⟩
      refine ⟨_, rfl, FA, _, _, V.ref fa, rfl, rfl, hfas.sq, atI_nat (by rw [List.getElem?_map, hfa]; rfl), ?_⟩
      refine ⟨_, rfl, _, _, rfl, rfl, _, rfl, fa, _, _, V.ref aa, rfl, rfl, k1.sq, atI_nat (j := 0) rfl, aa, _, rfl, .inr k2.sq, _, _, rfl, rfl, ?_⟩
      have een : (j : Int) + 1 + (((ats.map V.ref).length : Nat) : Int) = ((j + 1 + n : Nat) : Int) := by rw [List.length_map, k4, hf1]; omega
      have ej1 : (j : Int) + 1 = ((j + 1 : Nat) : Int) := by omega
      show gName 4 (V.int ((j : Int) + 1 + (((ats.map V.ref).length : Nat) : Int))) _ _ _
      rw [een]
      refine ⟨_, rfl, _, rfl, _, _, rfl, rfl, _, rfl, _, rfl, _, rfl, ca, _, rfl, hca, fun nu hnu => ?_⟩
      rw [ej1, IL_cut (by omega) (by omega), hr1, show j + 1 + n - (j + 1) = n by omega]
      have s1 : Same H (upd H nu (.lst (IL (r.take n)))) := Same.upd_new hnu
      refine ⟨Nat.zero_le _, fun ro hro => ?_⟩
      have s2 := s1.trans (Same.upd_new (o := .lst []) hro)
      have nro : H ro = none := s1.free hro
      have nnr : nu ≠ ro := ne_of_none upd_same hro
      have hkr : rts.length = k := by rw [k5, hf2]
      have hargs : (r.take n).length = n := by rw [List.length_take]; omega
      refine while_by (fun σ H' => ∃ (e : Nat) (as : List Addr) (done todo : List (List Int)) (v : Option V), σ = [some (.ref ca), some (nv j), some (nv pl), some (.ref fa), some (nv e), some (.ref nu), some (.ref ro), v] ∧ Same H H' ∧ H' nu = some (.lst (IL (r.take n))) ∧ RowsI H' ro as done ∧
          (∀ a ∈ as, H a = none) ∧ j < e ∧ e ≤ ns.length ∧ as.length + todo.length = k ∧ PyFlat.rows todo.length (ns.drop e) = some (todo, t) ∧ done ++ todo = xs)
        (fun σ H' => k - (match H' ro with | some (.lst l) => l.length | _ => 0)) ⟨j + 1 + n, [], [], xs, none, rfl, s2, ?_, ⟨upd_same, rfl, (fun _ _ _ h => by simp at h)⟩, (fun _ h => by cases h), by omega, by omega, ?_, ?_, rfl⟩ ?_ ?_
      · rw [upd_ne nnr]
        exact upd_same
      · rw [List.length_nil, Nat.zero_add]
        exact rows_len hrows
      · rw [rows_len hrows, ← hrows, ← hr1, List.drop_drop]
      · rintro σ H' ⟨e, as, done, todo, v, rfl, s3, hnu', ⟨hr1', hr2', hr3'⟩, hnew, hje, hen, hlen, htodo, hdt⟩
        refine ⟨_, rfl, ro, _, rfl, .inl (SqL.of hr1'), _, rfl, fa, _, _, V.ref ra, rfl, rfl, k1.sq, atI_nat (j := 1) rfl, ra, _, rfl, .inr k3.sq, _, _, rfl, rfl, _, rfl, ?_⟩
        rw [List.length_map, List.length_map, hkr]
        refine ite2 (fun hc => ?_) (fun hc => ?_)
        · have hc : as.length < k := by
            have := of_decide_eq_true hc
            omega
          obtain ⟨m, hm⟩ : ∃ m, todo.length = m + 1 := ⟨todo.length - 1, by omega⟩
          rw [hm] at htodo
          obtain ⟨z, r2, ys, hz1, hz2, hz3, hz4, hz5⟩ := rows_succ htodo
          obtain ⟨b1, b2, b3⟩ := drop_cons hz1
          obtain ⟨zn, rfl⟩ := Int.eq_ofNat_of_zero_le hz2
          rw [Int.toNat_natCast] at hz3 hz4 hz5
          have hr2l : r2.length = ns.length - (e + 1) := by rw [← b2, List.length_drop]
          refine ⟨_, rfl, _, _, rfl, rfl, ?_⟩
          refine ⟨_, rfl, _, rfl, _, rfl, ca, _, _, _, rfl, rfl, s3.seq hca, IL_at b1, _, _, rfl, rfl, ?_⟩
          have ee1 : (e : Int) + 1 = ((e + 1 : Nat) : Int) := by omega
          have ee2 : (e : Int) + 1 + (zn : Int) = ((e + 1 + zn : Nat) : Int) := by omega
          show gName 4 (V.int ((e : Int) + 1 + (zn : Int))) _ _ _
          rw [ee2]
          refine ⟨_, rfl, .inl ⟨rfl, _, SqL.of hr1'⟩, _, rfl, _, rfl, _, rfl, _, rfl, _, rfl, ca, _, rfl, s3.seq hca, fun ra2 hra2 => ?_⟩
          rw [ee1, IL_cut (by omega) (by omega), b2, show e + 1 + zn - (e + 1) = zn by omega]
          have s4 : Same H' (upd H' ra2 (.lst (IL (r2.take zn)))) := Same.upd_new hra2
          have hne : ra2 ≠ ro := fun q => by rw [q, hr1'] at hra2; cases hra2
          refine ⟨ro, _, _, rfl, rfl, s4 _ _ hr1', by rw [List.length_map]; show as.length < 16777216; omega, ?_⟩
          have keep : ∀ b o, upd H' ra2 (.lst (IL (r2.take zn))) b = some o → b ≠ ro → upd (upd H' ra2 (.lst (IL (r2.take zn)))) ro (.lst (as.map V.ref ++ [V.ref ra2])) b = some o := fun b o e hb => by rw [upd_ne hb]; exact e
          refine ⟨⟨e + 1 + zn, as ++ [ra2], done ++ [r2.take zn], ys, some (nv (e + 1)), ?_, ?_, ?_, ⟨?_, ?_, ?_⟩, ?_, by omega, by omega, ?_, ?_, ?_⟩, ?_⟩
          · show [some (V.ref ca), some (nv j), some (nv pl), some (V.ref fa), some (nv (e + 1 + zn)), some (V.ref nu), some (V.ref ro), some (V.int ((e : Int) + 1))] = _
            rw [ee1]
          · exact fun b o e => keep b o (s4 _ _ (s3 _ _ e)) (ne_of_none e nro)
          · exact keep _ _ (s4 _ _ hnu') nnr
          · rw [upd_same, List.map_append]
            rfl
          · rw [List.length_append, List.length_append, hr2']
            rfl
          · intro i a rr ea er
            by_cases hi : i < as.length
            · omega
            · have hi2 : i < (as ++ [ra2]).length := (List.getElem?_eq_some_iff.mp ea).1
              rw [List.length_append, List.length_singleton] at hi2
              have ei : i = as.length := by omega
              subst ei
              rw [List.getElem?_append_right (Nat.le_refl _), Nat.sub_self] at ea
              rw [List.getElem?_append_right (by omega), hr2', Nat.sub_self] at er
              cases ea
              cases er
              exact keep _ _ upd_same hne
          · intro a ha
            rcases List.mem_append.mp ha with h | h
            · exact hnew a h
            · have : a = ra2 := by simpa using h
              subst this
              exact s3.free hra2
          · rw [List.length_append, List.length_singleton]
            have := congrArg List.length hz5
            rw [List.length_cons] at this
            omega
          · have hm2 := congrArg List.length hz5
            rw [List.length_cons] at hm2
            have hm3 : m = ys.length := by omega
            rw [← hm3, ← hz4, ← b2, List.drop_drop]
          · rw [← hdt, hz5, List.append_assoc]
            rfl
          · rw [upd_same]
            show k - (as.map V.ref ++ [V.ref ra2]).length < k - (match H' ro with | some (.lst l) => l.length | _ => 0)
            rw [hr1']
            show k - (as.map V.ref ++ [V.ref ra2]).length < k - (as.map V.ref).length
            rw [List.length_append, List.length_map, List.length_singleton]
            omega
        · have hc : k ≤ as.length := by
            have : ¬ ((as.length : Nat) : Int) < ((k : Nat) : Int) := fun h => hc (decide_eq_true h)
            omega
          have ht0 : todo = [] := List.length_eq_zero_iff.mp (by omega)
          subst ht0
          have hxs : done = xs := by rw [← hdt, List.append_nil]
          subst hxs
          have htt : ns.drop e = t := by
            have : some (([] : List (List Int)), ns.drop e) = some ([], t) := htodo
            exact congrArg (·.2) (Option.some.inj this)
          refine ⟨_, rfl, _, rfl, _, rfl, _, rfl, ?_⟩
          intro x dx nx nd ne
          refine ⟨x, dx, nu, ro, pl, e, rfl, upd_same, fun H5 hC k5' => ⟨rfl, ?_⟩⟩
          have s5 : Same H' H5 := Same.made nx nd k5'
          exact q H5 x nu ro as pl e fm (r.take n) done rfl (by rw [hargs, rows_len hrows]; exact hsh) hfm (by rw [hargs, hf1]) (by rw [rows_len hrows, hf2]) (s3.trans s5) hC (s5 _ _ hnu') hnu (RowsI.same ⟨hr1', hr2', hr3'⟩ s5) hnew nro (s3.free nx) hje hen htt
      · intro σ H' Q1 Q2 hm h
        obtain ⟨v, h1, p1, ys1, h2, h3, v2, h4, p2, xs2, i2, v3, h5, h6, h7, h8, p3, ys3, h9, h10, i, jj, h11, h12, kk, h13, h14⟩ := h
        exact ⟨v, h1, p1, ys1, h2, h3, v2, h4, p2, xs2, i2, v3, h5, h6, h7, h8, p3, ys3, h9, h10, i, jj, h11, h12, kk, h13, hm _ _ h14⟩
end
end Ks
namespace Ks
open Vbahal (Call Reading within classOf seatsOf weightOf listOf ranged)
def FORMS19 : List Form := [
  ([(0, 60)], [(1, 8, 1, 1000000)]), ([(0, 7)], [(1, 21, 0, 1000)]), ([(0, 7), (0, 20)], []), ([(0, 7), (0, 60)], []), ([(0, 7), (1, 60)], []), ([], []), ([(0, 7), (0, 60), (0, 60)], []), ([], [(1, 8, 0, 60)]), ([], [(0, 7, 0, 60)]), ([], [(1, 8, 0, 60)]),
  ([], []), ([(0, 7), (0, 60)], []), ([(0, 7)], []), ([], [(2, 9, 0, 1000)]), ([(0, 20), (0, 60)], []), ([(1, 20), (0, 60)], []), ([(0, 60)], [(0, 20, 0, 8)]), ([], []), ([], [])]
theorem shape_ok : ShapeOk FORMS19 := by
  intro p n k h
  by_cases hp : 0 ≤ p ∧ p ≤ 18
  · obtain ⟨m, rfl⟩ := Int.eq_ofNat_of_zero_le hp.1
    have hm : m < 19 := by omega
    have key : ∀ m : _root_.Fin 19, ∀ n k, PyVbahal.shape ((m.val : Nat) : Int) = some (n, k) → ∃ f, FORMS19[m.val]? = some f ∧ f.1.length = n ∧ f.2.length = k ∧ k ≤ 1 := by
      intro m n k h
      have h2 : ∀ m : _root_.Fin 19, (match PyVbahal.shape ((m.val : Nat) : Int), FORMS19[m.val]? with | some (n, k), some f => f.1.length == n && f.2.length == k && decide (k ≤ 1) | _, _ => false) = true := by decide +kernel
      have h3 := h2 m
      rw [h] at h3
      cases e : FORMS19[m.val]? with
      | none => rw [e] at h3; cases h3
      | some f =>
        rw [e] at h3
        simp only [Bool.and_eq_true, beq_iff_eq, decide_eq_true_eq] at h3
        exact ⟨f, rfl, h3.1.1, h3.1.2, h3.2⟩
    refine ⟨by omega, ?_⟩
    rw [Int.toNat_natCast]
    exact key ⟨m, hm⟩ n k h
  · exfalso
    unfold PyVbahal.shape at h
    repeat rw [if_neg (by omega)] at h
    cases h
def ints' (l : List Int) : List Nat := l.map Int.toNat
theorem within_eq (lo hi : Nat) (z : Int) : within lo hi z = if inB lo hi z = true then some z.toNat else none := by
  unfold within inB
  by_cases h : (lo : Int) ≤ z ∧ z ≤ (hi : Int)
  · rw [if_pos h, if_pos (by rw [decide_eq_true h.1, decide_eq_true h.2]; rfl)]
  · rw [if_neg h, if_neg]
    intro q
    rw [Bool.and_eq_true] at q
    exact h ⟨of_decide_eq_true q.1, of_decide_eq_true q.2⟩
theorem mapM_within (lo hi : Nat) : ∀ l : List Int, l.mapM (within lo hi) = if l.all (inB lo hi) = true then some (ints' l) else none
  | [] => by simp [ints']
  | z :: l => by
    rw [List.mapM_cons, within_eq, mapM_within lo hi l, List.all_cons]
    by_cases h1 : inB lo hi z = true
    · by_cases h2 : l.all (inB lo hi) = true
      · rw [if_pos h1, if_pos h2, if_pos (by rw [h1, h2]; rfl)]
        rfl
      · rw [if_pos h1, if_neg h2, if_neg (by rw [h1, Bool.true_and]; exact h2)]
        rfl
    · have h3 : ¬ (inB lo hi z && l.all (inB lo hi)) = true := by intro q; rw [Bool.and_eq_true] at q; exact h1 q.1
      rw [if_neg h1, if_neg h3]
      rfl
theorem listOf_eq (lo hi a b : Nat) (l : List Int) : listOf lo hi (within a b) l = if inRow l (lo, hi, a, b) = true then some (ints' l) else none := by
  unfold listOf inRow
  rw [mapM_within]
  by_cases h : lo ≤ l.length ∧ l.length ≤ hi
  · have : inB (lo : Int) (hi : Int) (l.length : Nat) = true := by
      unfold inB
      rw [decide_eq_true (by omega), decide_eq_true (by omega)]
      rfl
    rw [if_pos h]
    simp only [this, Bool.true_and]
  · rw [if_neg h, if_neg]
    intro q
    rw [Bool.and_eq_true] at q
    have q1 := q.1
    unfold inB at q1
    rw [Bool.and_eq_true] at q1
    have a1 := of_decide_eq_true q1.1
    have a2 := of_decide_eq_true q1.2
    have a1 : (lo : Int) ≤ (l.length : Nat) := a1
    have a2 : ((l.length : Nat) : Int) ≤ (hi : Int) := a2
    exact h ⟨by omega, by omega⟩
def callOf (pl : Nat) (ns : List Nat) (rows : List (List Nat)) : Call := match pl with
  | 0 => .new (ns.getD 0 0) (rows.getD 0 [])
  | 1 => .demand (ns.getD 0 0) (rows.getD 0 [])
  | 2 => .observe (ns.getD 0 0) (ns.getD 1 0)
  | 3 => .value (ns.getD 0 0) (ns.getD 1 0)
  | 4 => .marginal (ns.getD 0 0) (ns.getD 1 0)
  | 5 => .protections
  | 6 => .decide (ns.getD 0 0) (ns.getD 1 0) (ns.getD 2 0)
  | 7 => .play (rows.getD 0 [])
  | 8 => .mean (rows.getD 0 [])
  | 9 => .known (rows.getD 0 [])
  | 10 => .meanKnown
  | 11 => .chance (ns.getD 0 0) (ns.getD 1 0)
  | 12 => .asked (ns.getD 0 0)
  | 13 => .period (rows.getD 0 [])
  | 14 => .spanValue (ns.getD 0 0) (ns.getD 1 0)
  | 15 => .accept (ns.getD 0 0) (ns.getD 1 0)
  | 16 => .requests (ns.getD 0 0) (rows.getD 0 [])
  | 17 => .clear
  | _ => .shown
theorem len0 {α : Type} {l : List α} (h : l.length = 0) : l = [] := List.length_eq_zero_iff.mp h
theorem len1 {α : Type} {l : List α} (h : l.length = 1) : ∃ a, l = [a] := by
  match l, h with
  | [a], _ => exact ⟨a, rfl⟩
theorem len2 {α : Type} {l : List α} (h : l.length = 2) : ∃ a b, l = [a, b] := by
  match l, h with
  | [a, b], _ => exact ⟨a, b, rfl⟩
theorem len3 {α : Type} {l : List α} (h : l.length = 3) : ∃ a b c, l = [a, b, c] := by
  match l, h with
  | [a, b, c], _ => exact ⟨a, b, c, rfl⟩
theorem inArgs1 (z : Int) (p : Int × Int) : inArgs [z] [p] = inB p.1 p.2 z := by simp [inArgs]
theorem inArgs2 (z y : Int) (p q : Int × Int) : inArgs [z, y] [p, q] = (inB p.1 p.2 z && inB q.1 q.2 y) := by simp [inArgs]
theorem inArgs3 (z y x : Int) (p q r : Int × Int) : inArgs [z, y, x] [p, q, r] = (inB p.1 p.2 z && (inB q.1 q.2 y && inB r.1 r.2 x)) := by simp [inArgs]
theorem inRows1 (z : List Int) (p : Int × Int × Int × Int) : inRows [z] [p] = inRow z p := by simp [inRows]
theorem rd_a (lo hi : Nat) (a : Int) (F : Nat → Call) : ranged (do return F (← within lo hi a)) = if inB lo hi a = true then .call (F a.toNat) else .range := by
  rw [within_eq]
  split <;> rfl
theorem rd_aa (lo hi lo' hi' : Nat) (a b : Int) (F : Nat → Nat → Call) : ranged (do return F (← within lo hi a) (← within lo' hi' b)) = if (inB lo hi a && inB lo' hi' b) = true then .call (F a.toNat b.toNat) else .range := by
  rw [within_eq, within_eq]
  by_cases h1 : inB lo hi a = true <;> by_cases h2 : inB lo' hi' b = true <;> simp [h1, h2, ranged]
theorem rd_aaa (lo hi lo' hi' l2 u2 : Nat) (a b c : Int) (F : Nat → Nat → Nat → Call) : ranged (do return F (← within lo hi a) (← within lo' hi' b) (← within l2 u2 c)) = if (inB lo hi a && (inB lo' hi' b && inB l2 u2 c)) = true then .call (F a.toNat b.toNat c.toNat) else .range := by
  rw [within_eq, within_eq, within_eq]
  by_cases h1 : inB lo hi a = true <;> by_cases h2 : inB lo' hi' b = true <;> by_cases h3 : inB l2 u2 c = true <;> simp_all [ranged]
theorem rd_r (lo hi a b : Nat) (l : List Int) (F : List Nat → Call) : ranged (do return F (← listOf lo hi (within a b) l)) = if inRow l (lo, hi, a, b) = true then .call (F (ints' l)) else .range := by
  rw [listOf_eq]
  split <;> rfl
theorem rd_ar (l0 h0 lo hi a b : Nat) (z : Int) (l : List Int) (F : Nat → List Nat → Call) : ranged (do return F (← within l0 h0 z) (← listOf lo hi (within a b) l)) = if (inB l0 h0 z && inRow l (lo, hi, a, b)) = true then .call (F z.toNat (ints' l)) else .range := by
  rw [within_eq, listOf_eq]
  by_cases h1 : inB l0 h0 z = true <;> by_cases h2 : inRow l (lo, hi, a, b) = true <;> simp [h1, h2, ranged]
theorem read_eq (pl : Nat) (args : List Int) (rows : List (List Int)) (f : Form) (hf : FORMS19[pl]? = some f) (h1 : args.length = f.1.length) (h2 : rows.length = f.2.length) :
    Vbahal.read (((pl : Int) :: args) :: rows) = if (inArgs args f.1 && inRows rows f.2) = true then .call (callOf pl (ints' args) (rows.map ints')) else .range := by
  match pl, hf with
  | 0, hf =>
    cases hf
    obtain ⟨a, rfl⟩ := len1 h1
    obtain ⟨r, rfl⟩ := len1 h2
    rw [inArgs1, inRows1]
    exact rd_ar 0 60 1 8 1 1000000 a r Call.new
  | 1, hf =>
    cases hf
    obtain ⟨a, rfl⟩ := len1 h1
    obtain ⟨r, rfl⟩ := len1 h2
    rw [inArgs1, inRows1]
    exact rd_ar 0 7 1 21 0 1000 a r Call.demand
  | 2, hf =>
    cases hf
    obtain ⟨a, b, rfl⟩ := len2 h1
    cases len0 h2
    rw [inArgs2, show inRows [] [] = true from rfl, Bool.and_true]
    exact rd_aa 0 7 0 20 a b Call.observe
  | 3, hf =>
    cases hf
    obtain ⟨a, b, rfl⟩ := len2 h1
    cases len0 h2
    rw [inArgs2, show inRows [] [] = true from rfl, Bool.and_true]
    exact rd_aa 0 7 0 60 a b Call.value
  | 4, hf =>
    cases hf
    obtain ⟨a, b, rfl⟩ := len2 h1
    cases len0 h2
    rw [inArgs2, show inRows [] [] = true from rfl, Bool.and_true]
    exact rd_aa 0 7 1 60 a b Call.marginal
  | 5, hf =>
    cases hf
    cases len0 h1
    cases len0 h2
    rfl
  | 6, hf =>
    cases hf
    obtain ⟨a, b, c, rfl⟩ := len3 h1
    cases len0 h2
    rw [inArgs3, show inRows [] [] = true from rfl, Bool.and_true]
    exact rd_aaa 0 7 0 60 0 60 a b c Call.decide
  | 7, hf =>
    cases hf
    cases len0 h1
    obtain ⟨r, rfl⟩ := len1 h2
    rw [inRows1, show inArgs [] [] = true from rfl, Bool.true_and]
    exact rd_r 1 8 0 60 r Call.play
  | 8, hf =>
    cases hf
    cases len0 h1
    obtain ⟨r, rfl⟩ := len1 h2
    rw [inRows1, show inArgs [] [] = true from rfl, Bool.true_and]
    exact rd_r 0 7 0 60 r Call.mean
  | 9, hf =>
    cases hf
    cases len0 h1
    obtain ⟨r, rfl⟩ := len1 h2
    rw [inRows1, show inArgs [] [] = true from rfl, Bool.true_and]
    exact rd_r 1 8 0 60 r Call.known
  | 10, hf =>
    cases hf
    cases len0 h1
    cases len0 h2
    rfl
  | 11, hf =>
    cases hf
    obtain ⟨a, b, rfl⟩ := len2 h1
    cases len0 h2
    rw [inArgs2, show inRows [] [] = true from rfl, Bool.and_true]
    exact rd_aa 0 7 0 60 a b Call.chance
  | 12, hf =>
    cases hf
    obtain ⟨a, rfl⟩ := len1 h1
    cases len0 h2
    rw [inArgs1, show inRows [] [] = true from rfl, Bool.and_true]
    exact rd_a 0 7 a Call.asked
  | 13, hf =>
    cases hf
    cases len0 h1
    obtain ⟨r, rfl⟩ := len1 h2
    rw [inRows1, show inArgs [] [] = true from rfl, Bool.true_and]
    exact rd_r 2 9 0 1000 r Call.period
  | 14, hf =>
    cases hf
    obtain ⟨a, b, rfl⟩ := len2 h1
    cases len0 h2
    rw [inArgs2, show inRows [] [] = true from rfl, Bool.and_true]
    exact rd_aa 0 20 0 60 a b Call.spanValue
  | 15, hf =>
    cases hf
    obtain ⟨a, b, rfl⟩ := len2 h1
    cases len0 h2
    rw [inArgs2, show inRows [] [] = true from rfl, Bool.and_true]
    exact rd_aa 1 20 0 60 a b Call.accept
  | 16, hf =>
    cases hf
    obtain ⟨a, rfl⟩ := len1 h1
    obtain ⟨r, rfl⟩ := len1 h2
    rw [inArgs1, inRows1]
    exact rd_ar 0 60 0 20 0 8 a r Call.requests
  | 17, hf =>
    cases hf
    cases len0 h1
    cases len0 h2
    rfl
  | 18, hf =>
    cases hf
    cases len0 h1
    cases len0 h2
    rfl
  | n + 19, hf => cases hf
theorem whole_ok (pl : Nat) (args : List Int) (rows : List (List Int)) (f : Form) (hf : FORMS19[pl]? = some f) (h1 : args.length = f.1.length) (h2 : rows.length = f.2.length) : PyVbahal.whole (((pl : Int) :: args) :: rows) = ((pl : Int) :: args) :: rows := by
  match pl, hf with
  | 0, hf =>
    cases hf
    obtain ⟨a, rfl⟩ := len1 h1
    obtain ⟨r, rfl⟩ := len1 h2
    rfl
  | 1, hf =>
    cases hf
    obtain ⟨a, rfl⟩ := len1 h1
    obtain ⟨r, rfl⟩ := len1 h2
    rfl
  | 2, hf =>
    cases hf
    obtain ⟨a, b, rfl⟩ := len2 h1
    cases len0 h2
    rfl
  | 3, hf =>
    cases hf
    obtain ⟨a, b, rfl⟩ := len2 h1
    cases len0 h2
    rfl
  | 4, hf =>
    cases hf
    obtain ⟨a, b, rfl⟩ := len2 h1
    cases len0 h2
    rfl
  | 5, hf =>
    cases hf
    cases len0 h1
    cases len0 h2
    rfl
  | 6, hf =>
    cases hf
    obtain ⟨a, b, c, rfl⟩ := len3 h1
    cases len0 h2
    rfl
  | 7, hf =>
    cases hf
    cases len0 h1
    obtain ⟨r, rfl⟩ := len1 h2
    rfl
  | 8, hf =>
    cases hf
    cases len0 h1
    obtain ⟨r, rfl⟩ := len1 h2
    rfl
  | 9, hf =>
    cases hf
    cases len0 h1
    obtain ⟨r, rfl⟩ := len1 h2
    rfl
  | 10, hf =>
    cases hf
    cases len0 h1
    cases len0 h2
    rfl
  | 11, hf =>
    cases hf
    obtain ⟨a, b, rfl⟩ := len2 h1
    cases len0 h2
    rfl
  | 12, hf =>
    cases hf
    obtain ⟨a, rfl⟩ := len1 h1
    cases len0 h2
    rfl
  | 13, hf =>
    cases hf
    cases len0 h1
    obtain ⟨r, rfl⟩ := len1 h2
    rfl
  | 14, hf =>
    cases hf
    obtain ⟨a, b, rfl⟩ := len2 h1
    cases len0 h2
    rfl
  | 15, hf =>
    cases hf
    obtain ⟨a, b, rfl⟩ := len2 h1
    cases len0 h2
    rfl
  | 16, hf =>
    cases hf
    obtain ⟨a, rfl⟩ := len1 h1
    obtain ⟨r, rfl⟩ := len1 h2
    rfl
  | 17, hf =>
    cases hf
    cases len0 h1
    cases len0 h2
    rfl
  | 18, hf =>
    cases hf
    cases len0 h1
    cases len0 h2
    rfl
  | n + 19, hf => cases hf
end Ks
namespace Ks
open Vbahal (Call State Class)
def CallOk : Call → Prop
  | .new n f => n ≤ 60 ∧ 1 ≤ f.length ∧ f.length ≤ 8 ∧ ∀ z ∈ f, 1 ≤ z ∧ z ≤ 1000000
  | .demand i w => 1 ≤ w.length ∧ w.length ≤ 21 ∧ ∀ z ∈ w, z ≤ 1000
  | .observe i d => d ≤ 20
  | .value i x => x ≤ 60
  | .marginal i x => 1 ≤ x ∧ x ≤ 60
  | .protections => True
  | .decide i x n => x ≤ 60 ∧ n ≤ 60
  | .play d => 1 ≤ d.length ∧ d.length ≤ 8
  | .mean p => p.length ≤ 7
  | .known d => 1 ≤ d.length ∧ d.length ≤ 8
  | .meanKnown => True
  | .chance i n => n ≤ 60
  | .asked i => True
  | .period w => 2 ≤ w.length ∧ w.length ≤ 9 ∧ ∀ z ∈ w, z ≤ 1000
  | .spanValue t x => t ≤ 20 ∧ x ≤ 60
  | .accept t x => 1 ≤ t ∧ t ≤ 20 ∧ x ≤ 60
  | .requests x q => x ≤ 60 ∧ q.length ≤ 20
  | .clear => True
  | .shown => True
theorem inB_nat {lo hi : Nat} {z : Int} (h : inB lo hi z = true) : ((z.toNat : Nat) : Int) = z ∧ lo ≤ z.toNat ∧ z.toNat ≤ hi := by
  unfold inB at h
  rw [Bool.and_eq_true] at h
  have h1 := of_decide_eq_true h.1
  have h2 := of_decide_eq_true h.2
  omega
theorem inRow_nat {lo hi a b : Nat} {l : List Int} (h : inRow l (lo, hi, a, b) = true) : (ints' l).map (fun n : Nat => (n : Int)) = l ∧ lo ≤ (ints' l).length ∧ (ints' l).length ≤ hi ∧ ∀ z ∈ ints' l, a ≤ z ∧ z ≤ b := by
  unfold inRow at h
  rw [Bool.and_eq_true] at h
  obtain ⟨h1, h2⟩ := h
  unfold inB at h1
  rw [Bool.and_eq_true] at h1
  have a1 : (lo : Int) ≤ (l.length : Nat) := of_decide_eq_true h1.1
  have a2 : ((l.length : Nat) : Int) ≤ (hi : Int) := of_decide_eq_true h1.2
  have h3 : ∀ z ∈ l, inB a b z = true := fun z hz => List.all_eq_true.mp h2 z hz
  refine ⟨?_, by unfold ints'; rw [List.length_map]; omega, by unfold ints'; rw [List.length_map]; omega, fun z hz => ?_⟩
  · unfold ints'
    rw [List.map_map]
    refine (List.map_congr_left fun z hz => ?_).trans (List.map_id l)
    exact (inB_nat (h3 z hz)).1
  · obtain ⟨y, hy, rfl⟩ := List.mem_map.mp hz
    exact (inB_nat (h3 y hy)).2
theorem range_ok (pl : Nat) (args : List Int) (rows : List (List Int)) (f : Form) (hf : FORMS19[pl]? = some f) (h1 : args.length = f.1.length) (h2 : rows.length = f.2.length) (h : (inArgs args f.1 && inRows rows f.2) = true) :
    CallOk (callOf pl (ints' args) (rows.map ints')) ∧ (ints' args).map (fun n : Nat => (n : Int)) = args ∧ ∀ r ∈ rows, (ints' r).map (fun n : Nat => (n : Int)) = r := by
  rw [Bool.and_eq_true] at h
  obtain ⟨ha, hb⟩ := h
  match pl, hf with
  | 0, hf =>
    cases hf
    obtain ⟨a, rfl⟩ := len1 h1
    obtain ⟨r, rfl⟩ := len1 h2
    rw [inArgs1] at ha
    rw [inRows1] at hb
    obtain ⟨e, _, e2⟩ := inB_nat (lo := 0) (hi := 60) ha
    obtain ⟨g, g1, g2, g3⟩ := inRow_nat (lo := 1) (hi := 8) (a := 1) (b := 1000000) hb
    exact ⟨⟨e2, g1, g2, g3⟩, by show [((a.toNat : Nat) : Int)] = [a]; rw [e], fun x hx => by cases List.mem_singleton.mp hx; exact g⟩
  | 1, hf =>
    cases hf
    obtain ⟨a, rfl⟩ := len1 h1
    obtain ⟨r, rfl⟩ := len1 h2
    rw [inArgs1] at ha
    rw [inRows1] at hb
    obtain ⟨e, _, e2⟩ := inB_nat (lo := 0) (hi := 7) ha
    obtain ⟨g, g1, g2, g3⟩ := inRow_nat (lo := 1) (hi := 21) (a := 0) (b := 1000) hb
    exact ⟨⟨g1, g2, fun z hz => (g3 z hz).2⟩, by show [((a.toNat : Nat) : Int)] = [a]; rw [e], fun x hx => by cases List.mem_singleton.mp hx; exact g⟩
  | 2, hf =>
    cases hf
    obtain ⟨a, b, rfl⟩ := len2 h1
    cases len0 h2
    rw [inArgs2, Bool.and_eq_true] at ha
    obtain ⟨e, _, e2⟩ := inB_nat (lo := 0) (hi := 7) ha.1
    obtain ⟨g, _, g2⟩ := inB_nat (lo := 0) (hi := 20) ha.2
    exact ⟨g2, by show [((a.toNat : Nat) : Int), ((b.toNat : Nat) : Int)] = [a, b]; rw [e, g], fun x hx => by cases hx⟩
  | 3, hf =>
    cases hf
    obtain ⟨a, b, rfl⟩ := len2 h1
    cases len0 h2
    rw [inArgs2, Bool.and_eq_true] at ha
    obtain ⟨e, _, e2⟩ := inB_nat (lo := 0) (hi := 7) ha.1
    obtain ⟨g, _, g2⟩ := inB_nat (lo := 0) (hi := 60) ha.2
    exact ⟨g2, by show [((a.toNat : Nat) : Int), ((b.toNat : Nat) : Int)] = [a, b]; rw [e, g], fun x hx => by cases hx⟩
  | 4, hf =>
    cases hf
    obtain ⟨a, b, rfl⟩ := len2 h1
    cases len0 h2
    rw [inArgs2, Bool.and_eq_true] at ha
    obtain ⟨e, _, e2⟩ := inB_nat (lo := 0) (hi := 7) ha.1
    obtain ⟨g, g1, g2⟩ := inB_nat (lo := 1) (hi := 60) ha.2
    exact ⟨⟨g1, g2⟩, by show [((a.toNat : Nat) : Int), ((b.toNat : Nat) : Int)] = [a, b]; rw [e, g], fun x hx => by cases hx⟩
  | 5, hf =>
    cases hf
    cases len0 h1
    cases len0 h2
    exact ⟨trivial, rfl, fun x hx => by cases hx⟩
  | 6, hf =>
    cases hf
    obtain ⟨a, b, c, rfl⟩ := len3 h1
    cases len0 h2
    rw [inArgs3, Bool.and_eq_true, Bool.and_eq_true] at ha
    obtain ⟨e, _, e2⟩ := inB_nat (lo := 0) (hi := 7) ha.1
    obtain ⟨g, _, g2⟩ := inB_nat (lo := 0) (hi := 60) ha.2.1
    obtain ⟨k, _, k2⟩ := inB_nat (lo := 0) (hi := 60) ha.2.2
    exact ⟨⟨g2, k2⟩, by show [((a.toNat : Nat) : Int), ((b.toNat : Nat) : Int), ((c.toNat : Nat) : Int)] = [a, b, c]; rw [e, g, k], fun x hx => by cases hx⟩
  | 7, hf =>
    cases hf
    cases len0 h1
    obtain ⟨r, rfl⟩ := len1 h2
    rw [inRows1] at hb
    obtain ⟨g, g1, g2, g3⟩ := inRow_nat (lo := 1) (hi := 8) (a := 0) (b := 60) hb
    exact ⟨⟨g1, g2⟩, rfl, fun x hx => by cases List.mem_singleton.mp hx; exact g⟩
  | 8, hf =>
    cases hf
    cases len0 h1
    obtain ⟨r, rfl⟩ := len1 h2
    rw [inRows1] at hb
    obtain ⟨g, g1, g2, g3⟩ := inRow_nat (lo := 0) (hi := 7) (a := 0) (b := 60) hb
    exact ⟨g2, rfl, fun x hx => by cases List.mem_singleton.mp hx; exact g⟩
  | 9, hf =>
    cases hf
    cases len0 h1
    obtain ⟨r, rfl⟩ := len1 h2
    rw [inRows1] at hb
    obtain ⟨g, g1, g2, g3⟩ := inRow_nat (lo := 1) (hi := 8) (a := 0) (b := 60) hb
    exact ⟨⟨g1, g2⟩, rfl, fun x hx => by cases List.mem_singleton.mp hx; exact g⟩
  | 10, hf =>
    cases hf
    cases len0 h1
    cases len0 h2
    exact ⟨trivial, rfl, fun x hx => by cases hx⟩
  | 11, hf =>
    cases hf
    obtain ⟨a, b, rfl⟩ := len2 h1
    cases len0 h2
    rw [inArgs2, Bool.and_eq_true] at ha
    obtain ⟨e, _, e2⟩ := inB_nat (lo := 0) (hi := 7) ha.1
    obtain ⟨g, _, g2⟩ := inB_nat (lo := 0) (hi := 60) ha.2
    exact ⟨g2, by show [((a.toNat : Nat) : Int), ((b.toNat : Nat) : Int)] = [a, b]; rw [e, g], fun x hx => by cases hx⟩
  | 12, hf =>
    cases hf
    obtain ⟨a, rfl⟩ := len1 h1
    cases len0 h2
    rw [inArgs1] at ha
    obtain ⟨e, _, e2⟩ := inB_nat (lo := 0) (hi := 7) ha
    exact ⟨trivial, by show [((a.toNat : Nat) : Int)] = [a]; rw [e], fun x hx => by cases hx⟩
  | 13, hf =>
    cases hf
    cases len0 h1
    obtain ⟨r, rfl⟩ := len1 h2
    rw [inRows1] at hb
    obtain ⟨g, g1, g2, g3⟩ := inRow_nat (lo := 2) (hi := 9) (a := 0) (b := 1000) hb
    exact ⟨⟨g1, g2, fun z hz => (g3 z hz).2⟩, rfl, fun x hx => by cases List.mem_singleton.mp hx; exact g⟩
  | 14, hf =>
    cases hf
    obtain ⟨a, b, rfl⟩ := len2 h1
    cases len0 h2
    rw [inArgs2, Bool.and_eq_true] at ha
    obtain ⟨e, _, e2⟩ := inB_nat (lo := 0) (hi := 20) ha.1
    obtain ⟨g, _, g2⟩ := inB_nat (lo := 0) (hi := 60) ha.2
    exact ⟨⟨e2, g2⟩, by show [((a.toNat : Nat) : Int), ((b.toNat : Nat) : Int)] = [a, b]; rw [e, g], fun x hx => by cases hx⟩
  | 15, hf =>
    cases hf
    obtain ⟨a, b, rfl⟩ := len2 h1
    cases len0 h2
    rw [inArgs2, Bool.and_eq_true] at ha
    obtain ⟨e, e1, e2⟩ := inB_nat (lo := 1) (hi := 20) ha.1
    obtain ⟨g, _, g2⟩ := inB_nat (lo := 0) (hi := 60) ha.2
    exact ⟨⟨e1, e2, g2⟩, by show [((a.toNat : Nat) : Int), ((b.toNat : Nat) : Int)] = [a, b]; rw [e, g], fun x hx => by cases hx⟩
  | 16, hf =>
    cases hf
    obtain ⟨a, rfl⟩ := len1 h1
    obtain ⟨r, rfl⟩ := len1 h2
    rw [inArgs1] at ha
    rw [inRows1] at hb
    obtain ⟨e, _, e2⟩ := inB_nat (lo := 0) (hi := 60) ha
    obtain ⟨g, g1, g2, g3⟩ := inRow_nat (lo := 0) (hi := 20) (a := 0) (b := 8) hb
    exact ⟨⟨e2, g2⟩, by show [((a.toNat : Nat) : Int)] = [a]; rw [e], fun x hx => by cases List.mem_singleton.mp hx; exact g⟩
  | 17, hf =>
    cases hf
    cases len0 h1
    cases len0 h2
    exact ⟨trivial, rfl, fun x hx => by cases hx⟩
  | 18, hf =>
    cases hf
    cases len0 h1
    cases len0 h2
    exact ⟨trivial, rfl, fun x hx => by cases hx⟩
  | n + 19, hf => cases hf
theorem start_ok : StOk Vbahal.start := ⟨by decide, by decide, (fun c hc => by cases hc), by decide, (fun w hw => by cases hw)⟩
theorem mem_modify {α : Type} {f : α → α} : ∀ {l : List α} {i : Nat} {x : α}, x ∈ l.modify i f → x ∈ l ∨ ∃ y, l[i]? = some y ∧ x = f y
  | [], i, x, h => by simp at h
  | a :: l, 0, x, h => by
    rw [List.modify_zero_cons] at h
    rcases List.mem_cons.mp h with e | e
    · exact .inr ⟨a, rfl, e⟩
    · exact .inl (List.mem_cons_of_mem _ e)
  | a :: l, i + 1, x, h => by
    rw [List.modify_succ_cons] at h
    rcases List.mem_cons.mp h with e | e
    · exact .inl (by rw [e]; exact List.mem_cons_self ..)
    · rcases mem_modify e with q | ⟨y, q1, q2⟩
      · exact .inl (List.mem_cons_of_mem _ q)
      · exact .inr ⟨y, by simpa using q1, q2⟩
theorem withWeights_ok {st : State} (ok : StOk st) {i : Nat} {w : List Nat} (h1 : 1 ≤ w.length) (h2 : w.length ≤ 21) (h3 : ∀ z ∈ w, z ≤ 1000) (h4 : 0 < w.sum) : StOk (Vbahal.withWeights st i w) := by
  unfold Vbahal.withWeights
  refine ⟨ok.seats, by rw [List.length_modify]; exact ok.len, fun c hc => ?_, ok.plen, fun p hp => ?_⟩
  · rcases mem_modify hc with e | ⟨y, e1, e2⟩
    · exact ok.cls c e
    · rw [e2]
      have g := ok.cls y (List.mem_of_getElem? e1)
      exact ⟨g.fare, h1, h2, h3, h4⟩
  · have := ok.per p hp
    rw [List.length_modify]
    exact this
theorem sum_set_lt : ∀ {l : List Nat} {d v : Nat}, d < l.length → v ≤ (l.set d v).sum
  | a :: l, 0, v, _ => by
    show v ≤ (v :: l).sum
    rw [List.sum_cons]
    omega
  | a :: l, d + 1, v, h => by
    have := sum_set_lt (l := l) (d := d) (v := v) (by simpa using h)
    show v ≤ (a :: l.set d v).sum
    rw [List.sum_cons]
    omega
theorem observed_ok {w : List Nat} {d : Nat} (h1 : 1 ≤ w.length) (h2 : w.length ≤ 21) (h3 : ∀ z ∈ w, z ≤ 1000) (hd : d ≤ 20) (hw : w.getD d 0 < 1000) :
    1 ≤ (Vbahal.observed w d).length ∧ (Vbahal.observed w d).length ≤ 21 ∧ (∀ z ∈ Vbahal.observed w d, z ≤ 1000) ∧ 0 < (Vbahal.observed w d).sum := by
  unfold Vbahal.observed
  have hl : (w ++ List.replicate (d + 1 - w.length) 0).length = max w.length (d + 1) := by
    rw [List.length_append, List.length_replicate]
    omega
  have hg : (w ++ List.replicate (d + 1 - w.length) 0).getD d 0 = w.getD d 0 := by
    rw [List.getD_eq_getElem?_getD, List.getD_eq_getElem?_getD]
    by_cases h : d < w.length
    · rw [List.getElem?_append_left h]
    · rw [List.getElem?_append_right (by omega), List.getElem?_eq_none (by omega : w.length ≤ d), List.getElem?_replicate]
      split <;> rfl
  dsimp only
  refine ⟨by rw [List.length_set, hl]; omega, by rw [List.length_set, hl]; omega, fun z hz => ?_, ?_⟩
  · rcases List.mem_or_eq_of_mem_set hz with e | e
    · rcases List.mem_append.mp e with e | e
      · exact h3 z e
      · rw [List.eq_of_mem_replicate e]
        omega
    · rw [e, hg]
      omega
  · have := sum_set_lt (l := w ++ List.replicate (d + 1 - w.length) 0) (d := d) (v := (w ++ List.replicate (d + 1 - w.length) 0).getD d 0 + 1) (by rw [hl]; omega)
    omega
theorem has_st {st : State} {i : Nat} {t : State × List Int} {R : State → Prop} (h1 : R st) (h2 : i < st.classes.length → R t.1) : R (Vbahal.has st i t).1 := by
  unfold Vbahal.has
  split
  · exact h1
  · split
    · exact h1
    · exact h2 (by omega)
theorem weightsOf_good {st : State} (ok : StOk st) {i : Nat} (h : i < st.classes.length) : ∃ c, st.classes[i]? = some c ∧ Vbahal.weightsOf st i = c.weights ∧ CGood c := by
  refine ⟨st.classes[i], List.getElem?_eq_getElem h, ?_, ok.cls _ (List.getElem_mem h)⟩
  unfold Vbahal.weightsOf
  rw [List.getElem?_eq_getElem h]
  rfl
theorem step_ok {st : State} (ok : StOk st) : ∀ {c : Call}, CallOk c → StOk (Vbahal.step st c).1
  | .new n f, h => by
    show StOk (if Vbahal.falling f = false then (st, [-5]) else ({ seats := n, classes := f.map fun x => { fare := x, weights := [1] }, periods := [] }, [0])).1
    split
    · exact ok
    · refine ⟨h.1, by rw [List.length_map]; exact h.2.2.1, fun c hc => ?_, Nat.zero_le _, fun w hw => by cases hw⟩
      obtain ⟨x, hx, rfl⟩ := List.mem_map.mp hc
      exact ⟨(h.2.2.2 x hx).2, (by show 1 ≤ 1; decide), (by show 1 ≤ 21; decide), (fun z hz => by cases List.mem_singleton.mp hz; decide), (by show 0 < [1].sum; decide)⟩
  | .demand i w, h => has_st ok fun hi => by
    split
    · exact ok
    · exact withWeights_ok ok h.1 h.2.1 h.2.2 (by omega)
  | .observe i d, h => has_st ok fun hi => by
    obtain ⟨c, _, ew, g⟩ := weightsOf_good ok hi
    split
    · exact ok
    · rw [ew] at *
      obtain ⟨a, b, e, f⟩ := observed_ok (d := d) g.len1 g.len g.le h (by omega)
      exact withWeights_ok ok a b e f
  | .value i x, h => has_st ok fun hi => by split <;> exact ok
  | .marginal i x, h => has_st ok fun hi => by split <;> exact ok
  | .protections, h => has_st ok fun hi => ok
  | .decide i x n, h => has_st ok fun hi => by split <;> exact ok
  | .play d, h => has_st ok fun hi => by split <;> exact ok
  | .mean p, h => has_st ok fun hi => by split <;> exact ok
  | .known d, h => has_st ok fun hi => by split <;> exact ok
  | .meanKnown, h => has_st ok fun hi => ok
  | .chance i n, h => has_st ok fun hi => ok
  | .asked i, h => has_st ok fun hi => ok
  | .period w, h => has_st ok fun hi => by
    split
    · exact ok
    · split
      · exact ok
      · split
        · exact ok
        · rename_i h1 h2 h3
          refine ⟨ok.seats, ok.len, ok.cls, by rw [List.length_append, List.length_singleton]; omega, fun p hp => ?_⟩
          rcases List.mem_append.mp hp with e | e
          · exact ok.per p e
          · cases List.mem_singleton.mp e
            exact ⟨Decidable.not_not.mp h1, h.2.2, by omega⟩
  | .spanValue t x, h => has_st ok fun hi => by
    split
    · exact ok
    · split <;> exact ok
  | .accept t x, h => has_st ok fun hi => by
    split
    · exact ok
    · split <;> exact ok
  | .requests x q, h => has_st ok fun hi => by
    split
    · exact ok
    · split <;> exact ok
  | .clear, h => has_st ok fun hi => ⟨ok.seats, ok.len, ok.cls, Nat.zero_le _, fun w hw => by cases hw⟩
  | .shown, h => has_st ok fun hi => ok
end Ks
namespace Ks
open Vbahal (Class State withPeriod spans spanTable zeros meanKnown)
def vterm (x scale : Nat) (rest : List Nat) (o : Option Nat) : Nat := if x = 0 then rest.getD 0 0 else match o with
  | none => rest.getD x 0
  | some f => max (f * scale + rest.getD (x - 1) 0) (rest.getD x 0)
theorem withPeriod_getD {S : Nat} {fares w : List Nat} {q : Nat} {u : List Nat} {x : Nat} (hx : x ≤ S) : (withPeriod S fares w q u).getD x 0 = (w.zipIdx.map fun p => p.1 * vterm x q u fares[p.2]?).sum := by
  unfold withPeriod
  rw [List.getD_eq_getElem?_getD, List.getElem?_map, List.getElem?_range (by omega)]
  rfl
theorem withPeriod_len {S : Nat} {fares w : List Nat} {q : Nat} {u : List Nat} : (withPeriod S fares w q u).length = S + 1 := by
  unfold withPeriod
  simp
theorem vterm_mono {S q : Nat} {u : List Nat} (h : Mono S u) {x : Nat} (hx : x < S) (o : Option Nat) : vterm x q u o ≤ vterm (x + 1) q u o := by
  unfold vterm
  have h1 := h x hx
  rw [if_neg (show ¬ x + 1 = 0 by omega), Nat.add_sub_cancel]
  by_cases hx0 : x = 0
  · subst hx0
    rw [if_pos rfl]
    cases o with
    | none => exact h1
    | some f => exact Nat.le_trans h1 (Nat.le_max_right _ _)
  · rw [if_neg hx0]
    cases o with
    | none => exact h1
    | some f =>
      have h2 := h (x - 1) (by omega)
      rw [Nat.sub_add_cancel (by omega)] at h2
      show max _ _ ≤ max _ _
      omega
theorem withPeriod_mono {S : Nat} {fares w : List Nat} {q : Nat} {u : List Nat} (h : Mono S u) : Mono S (withPeriod S fares w q u) := fun k hk => by
  rw [withPeriod_getD (by omega), withPeriod_getD (by omega)]
  exact sum_map_le _ fun p _ => Nat.mul_le_mul_left _ (vterm_mono h hk _)
structure PGood (w : List Nat) : Prop where
  le : ∀ z ∈ w, z ≤ 1000
  len : w.length ≤ 9
  pos : 0 < w.sum
theorem PGood.sum {w : List Nat} (h : PGood w) : w.sum ≤ 9000 := by
  have h1 := sum_le w h.le
  have h2 := h.len
  omega
theorem StOk.pgood {st : State} (ok : StOk st) : ∀ w ∈ st.periods, PGood w := fun w hw => by
  obtain ⟨h1, h2, h3⟩ := ok.per w hw
  have := ok.len
  exact ⟨h2, by omega, h3⟩
structure VGood (S n : Nat) (t : Nat × List Nat) : Prop where
  pos : 0 < t.1
  le : t.1 ≤ 9000 ^ n
  len : t.2.length = S + 1
  mono : Mono S t.2
def stepV (S : Nat) (fares : List Nat) (t : Nat × List Nat) (w : List Nat) : Nat × List Nat := (t.1 * w.sum, withPeriod S fares w t.1 t.2)
theorem stepV_good {S n : Nat} {fares : List Nat} {t : Nat × List Nat} {w : List Nat} (h : VGood S n t) (hw : PGood w) : VGood S (n + 1) (stepV S fares t w) := by
  refine ⟨Nat.mul_pos h.pos hw.pos, ?_, withPeriod_len, withPeriod_mono h.mono⟩
  show t.1 * w.sum ≤ 9000 ^ (n + 1)
  rw [Nat.pow_succ]
  exact Nat.mul_le_mul h.le hw.sum
theorem spans_eq (S : Nat) (fares : List Nat) : ∀ (ps : List (List Nat)) (t : Nat × List Nat) (k : Nat), k ≤ ps.length → (spans S fares t.1 t.2 ps)[k]? = some ((ps.take k).foldl (stepV S fares) t)
  | [], t, 0, _ => rfl
  | w :: ps, t, 0, _ => rfl
  | [], t, k + 1, h => by simp at h
  | w :: ps, t, k + 1, h => by
    show ((t.1, t.2) :: spans S fares (stepV S fares t w).1 (stepV S fares t w).2 ps)[k + 1]? = _
    rw [List.getElem?_cons_succ, spans_eq S fares ps (stepV S fares t w) k (by simpa using h)]
    rfl
theorem fold_good {S : Nat} {fares : List Nat} : ∀ (ps : List (List Nat)) (t : Nat × List Nat) (n : Nat), VGood S n t → (∀ w ∈ ps, PGood w) → VGood S (n + ps.length) (ps.foldl (stepV S fares) t)
  | [], t, n, h, _ => h
  | w :: ps, t, n, h, hw => by
    have := fold_good (fares := fares) ps (stepV S fares t w) (n + 1) (stepV_good h (hw w (by simp))) fun v hv => hw v (by simp [hv])
    rw [List.length_cons, show n + (ps.length + 1) = n + 1 + ps.length by omega]
    exact this
theorem zero_good (S : Nat) : VGood S 0 (1, zeros S) := ⟨(by show 0 < 1; decide), (by show 1 ≤ 9000 ^ 0; decide), by simp [zeros], zeros_mono S⟩
def vrow (st : State) (k : Nat) : Nat × List Nat := (st.periods.take k).foldl (stepV st.seats (st.classes.map fun c => c.fare)) (1, zeros st.seats)
theorem vrow_at {st : State} {k : Nat} (h : k ≤ st.periods.length) : (spanTable st)[k]? = some (vrow st k) := spans_eq st.seats _ st.periods (1, zeros st.seats) k h
theorem vrow_worth {st : State} {k : Nat} (h : k ≤ st.periods.length) (x : Nat) : Vbahal.spanWorth st k x = (vrow st k).2.getD x 0 := by
  unfold Vbahal.spanWorth
  rw [vrow_at h]
  rfl
theorem vrow_unit {st : State} {k : Nat} (h : k ≤ st.periods.length) : Vbahal.spanUnit st k = (vrow st k).1 := by
  unfold Vbahal.spanUnit
  rw [vrow_at h]
  rfl
theorem vunit_small {t n : Nat} (h : t ≤ 9000 ^ n) (hn : n ≤ 20) : (t : Int) < 2 ^ 9000 := by
  have h1 : (9000 : Nat) ^ n ≤ 9000 ^ 20 := Nat.pow_le_pow_right (by decide) hn
  exact Int.lt_of_le_of_lt (Int.ofNat_le.mpr (Nat.le_trans h h1)) (by decide +kernel)
theorem accepts_eq {st : State} {t x i : Nat} (ht : 1 ≤ t) (htp : t ≤ st.periods.length) (hi : i < st.classes.length) : Vbahal.accepts st t x i = (decide (1 ≤ x) && decide ((vrow st (t - 1)).2.getD x 0 - (vrow st (t - 1)).2.getD (x - 1) 0 ≤ Vbahal.fareOf st i * (vrow st (t - 1)).1)) := by
  unfold Vbahal.accepts
  rw [decide_eq_true ht, decide_eq_true hi, vrow_worth (by omega), vrow_worth (by omega), vrow_unit (by omega), Bool.true_and, Bool.true_and]
theorem meanKnown_good (S : Nat) : ∀ (l : List Class), (∀ c ∈ l, CGood c) → 0 < (meanKnown S l).1 ∧ (meanKnown S l).1 ≤ 21000 ^ l.length ∧ (meanKnown S l).2.length = S + 1
  | [], _ => ⟨(by show 0 < 1; decide), (by show 1 ≤ 21000 ^ 0; decide), (by show (zeros S).length = S + 1; simp [zeros])⟩
  | c :: l, hc => by
    obtain ⟨a, b, e⟩ := meanKnown_good S l fun d hd => hc d (by simp [hd])
    have g := hc c (by simp)
    refine ⟨Nat.mul_pos a g.pos, ?_, ?_⟩
    · show (meanKnown S l).1 * c.weights.sum ≤ 21000 ^ (l.length + 1)
      rw [Nat.pow_succ]
      exact Nat.mul_le_mul b g.sum
    · show ((List.range (S + 1)).map _).length = S + 1
      simp
end Ks
namespace Ks
open Vbahal (Class State withPeriod zeros meanKnown meanWith)
def vfold (S : Nat) (fares : List Nat) (ps : List (List Nat)) : Nat × List Nat := ps.foldl (stepV S fares) (1, zeros S)
theorem vrow_vfold (st : State) (k : Nat) : vrow st k = vfold st.seats (st.classes.map fun c => c.fare) (st.periods.take k) := rfl
def pterm (u : List Nat) (x : Nat) (p : Nat × Nat) : Nat := p.2 * max (p.1 + u.getD (x - 1) 0) (u.getD x 0)
def psum (gs ws u : List Nat) (x : Nat) : Nat := ws.getD gs.length 0 * u.getD x 0 + ((gs.zip ws).map (pterm u x)).sum
theorem zip_more : ∀ (gs ws r : List Nat), ws.length = gs.length → gs.zip (ws ++ r) = gs.zip ws
  | [], ws, r, h => by simp
  | g :: gs, [], r, h => by simp at h
  | g :: gs, w :: ws, r, h => by
    rw [List.cons_append, List.zip_cons_cons, List.zip_cons_cons, zip_more gs ws r (by simpa using h)]
theorem psum_aux (u : List Nat) (q x : Nat) (hx : x ≠ 0) (F : List Nat) : ∀ (fs ws : List Nat) (k : Nat), ws.length = fs.length → (∀ j, j < fs.length → F[k + j]? = fs[j]?) →
    (ws.zipIdx k).map (fun p => p.1 * vterm x q u F[p.2]?) = ((fs.map fun f => f * q).zip ws).map (pterm u x)
  | [], [], k, _, _ => rfl
  | [], w :: ws, k, h, _ => by simp at h
  | f :: fs, [], k, h, _ => by simp at h
  | f :: fs, w :: ws, k, h, hF => by
    have h0 : F[k]? = some f := by
      have := hF 0 (by simp)
      simpa using this
    rw [List.zipIdx_cons, List.map_cons, List.map_cons, List.zip_cons_cons, List.map_cons, psum_aux u q x hx F fs ws (k + 1) (by simpa using h) fun j hj => by
      have := hF (j + 1) (by simp; omega)
      rw [show k + 1 + j = k + (j + 1) by omega, this]
      simp]
    show w * vterm x q u F[k]? :: _ = _
    rw [h0]
    unfold vterm
    rw [if_neg hx]
    rfl
theorem psum_eq {fares ws u : List Nat} {q x : Nat} (hl : ws.length = fares.length + 1) (hx : x ≠ 0) : (ws.zipIdx.map fun p => p.1 * vterm x q u fares[p.2]?).sum = psum (fares.map fun f => f * q) ws u x := by
  obtain ⟨ws', a, rfl⟩ : ∃ ws' a, ws = ws' ++ [a] := by
    have hne : ws ≠ [] := fun e => by rw [e] at hl; simp at hl
    exact ⟨ws.dropLast, ws.getLast hne, (List.dropLast_concat_getLast hne).symm⟩
  have hl' : ws'.length = fares.length := by simpa using hl
  rw [List.zipIdx_append, List.map_append, List.sum_append, psum_aux u q x hx fares fares ws' 0 hl' fun j hj => by rw [Nat.zero_add]]
  unfold psum
  rw [zip_more _ _ _ (by rw [List.length_map]; exact hl'), List.length_map, ← hl']
  have e1 : (ws' ++ [a]).getD ws'.length 0 = a := by simp
  rw [e1]
  have e2 : ((([a] : List Nat).zipIdx (0 + ws'.length)).map fun p => p.1 * vterm x q u fares[p.2]?).sum = a * u.getD x 0 := by
    show ([a * vterm x q u fares[0 + ws'.length]?] : List Nat).sum = _
    rw [Nat.zero_add, List.getElem?_eq_none (by omega)]
    unfold vterm
    rw [if_neg hx]
    simp
  rw [e2, Nat.add_comm]
theorem sum_zero {α : Type} (f : α → Nat) : ∀ l : List α, (∀ a ∈ l, f a = 0) → (l.map f).sum = 0
  | [], _ => rfl
  | a :: l, h => by
    rw [List.map_cons, List.sum_cons, h a (by simp), sum_zero f l fun b hb => h b (by simp [hb])]
theorem withPeriod_eq {S : Nat} {fares ws u : List Nat} {q : Nat} (hl : ws.length = fares.length + 1) (h0 : u.getD 0 0 = 0) : withPeriod S fares ws q u = 0 :: (List.range S).map fun j => psum (fares.map fun f => f * q) ws u (j + 1) := by
  have e : withPeriod S fares ws q u = (List.range (S + 1)).map fun x => (ws.zipIdx.map fun p => p.1 * vterm x q u fares[p.2]?).sum := rfl
  rw [e, List.range_succ_eq_map, List.map_cons, List.map_map]
  congr 1
  · exact sum_zero _ _ fun p _ => by
      unfold vterm
      rw [if_pos rfl, h0, Nat.mul_zero]
  · exact List.map_congr_left fun j _ => psum_eq hl (by omega)
theorem vzero (S : Nat) (fares : List Nat) : ∀ (ps : List (List Nat)) (t : Nat × List Nat), t.2.getD 0 0 = 0 → (ps.foldl (stepV S fares) t).2.getD 0 0 = 0
  | [], t, h => h
  | w :: ps, t, h => by
    refine vzero S fares ps (stepV S fares t w) ?_
    show (withPeriod S fares w t.1 t.2).getD 0 0 = 0
    rw [withPeriod_getD (Nat.zero_le _)]
    exact sum_zero _ _ fun p _ => by
      unfold vterm
      rw [if_pos rfl, h, Nat.mul_zero]
theorem vfold_zero (S : Nat) (fares : List Nat) (ps : List (List Nat)) : (vfold S fares ps).2.getD 0 0 = 0 := vzero S fares ps _ (by simp [zeros])
theorem vfold_good {S : Nat} {fares : List Nat} {ps : List (List Nat)} (h : ∀ w ∈ ps, PGood w) : VGood S ps.length (vfold S fares ps) := by
  have := fold_good (S := S) (fares := fares) ps (1, zeros S) 0 (zero_good S) h
  rw [Nat.zero_add] at this
  exact this
theorem vfold_snoc (S : Nat) (fares : List Nat) (ps : List (List Nat)) (w : List Nat) : vfold S fares (ps ++ [w]) = stepV S fares (vfold S fares ps) w := by
  unfold vfold
  rw [List.foldl_append]
  rfl
theorem wp_agree {S R : Nat} (h : R ≤ S) {fares w u v : List Nat} {q : Nat} (hu : ∀ k, k ≤ R → v.getD k 0 = u.getD k 0) : ∀ k, k ≤ R → (withPeriod R fares w q v).getD k 0 = (withPeriod S fares w q u).getD k 0 := by
  intro k hk
  rw [withPeriod_getD hk, withPeriod_getD (by omega)]
  congr 1
  refine List.map_congr_left fun p _ => ?_
  congr 1
  unfold vterm
  rw [hu 0 (Nat.zero_le _), hu k hk, hu (k - 1) (by omega)]
theorem fold_agree {S R : Nat} (h : R ≤ S) {fares : List Nat} : ∀ (ps : List (List Nat)) (t r : Nat × List Nat), r.1 = t.1 → (∀ k, k ≤ R → r.2.getD k 0 = t.2.getD k 0) →
    (ps.foldl (stepV R fares) r).1 = (ps.foldl (stepV S fares) t).1 ∧ ∀ k, k ≤ R → (ps.foldl (stepV R fares) r).2.getD k 0 = (ps.foldl (stepV S fares) t).2.getD k 0
  | [], t, r, h1, h2 => ⟨h1, h2⟩
  | w :: ps, t, r, h1, h2 => by
    refine fold_agree h ps (stepV S fares t w) (stepV R fares r w) ?_ ?_
    · show r.1 * w.sum = t.1 * w.sum
      rw [h1]
    · show ∀ k, k ≤ R → (withPeriod R fares w r.1 r.2).getD k 0 = (withPeriod S fares w t.1 t.2).getD k 0
      rw [h1]
      exact wp_agree h h2
theorem vfold_agree {S R : Nat} (h : R ≤ S) (fares : List Nat) (ps : List (List Nat)) : (vfold R fares ps).1 = (vfold S fares ps).1 ∧ ∀ k, k ≤ R → (vfold R fares ps).2.getD k 0 = (vfold S fares ps).2.getD k 0 :=
  fold_agree h ps (1, zeros S) (1, zeros R) rfl fun k hk => by
    show (zeros R).getD k 0 = (zeros S).getD k 0
    rw [zeros_getD, zeros_getD]
def taken (fare : Nat) (t : Nat × List Nat) (x : Nat) : Bool := decide (1 ≤ x) && decide (t.2.getD x 0 - t.2.getD (x - 1) 0 ≤ fare * t.1)
theorem taken_eq {st : State} {t x i R : Nat} (ht : 1 ≤ t) (htp : t ≤ st.periods.length) (hi : i < st.classes.length) (hR : R ≤ st.seats) (hx : x ≤ R) :
    taken (Vbahal.fareOf st i) (vfold R (st.classes.map fun c => c.fare) (st.periods.take (t - 1))) x = Vbahal.accepts st t x i := by
  rw [accepts_eq ht htp hi, vrow_vfold]
  obtain ⟨h1, h2⟩ := vfold_agree hR (st.classes.map fun c => c.fare) (st.periods.take (t - 1))
  unfold taken
  rw [h1, h2 x hx, h2 (x - 1) (by omega)]
theorem accepts_none {st : State} {t x i : Nat} (hi : ¬ i < st.classes.length) : Vbahal.accepts st t x i = false := by
  unfold Vbahal.accepts
  rw [decide_eq_false hi]
  simp
theorem fareOf_at {st : State} {i f : Nat} (h : (st.classes.map fun c => c.fare)[i]? = some f) : Vbahal.fareOf st i = f := by
  unfold Vbahal.fareOf
  rw [List.getElem?_map] at h
  cases e : st.classes[i]? with
  | none => rw [e] at h; cases h
  | some c => rw [e] at h; cases h; rfl
theorem mw_snoc (S : Nat) (p : List Nat) : ∀ (l : List Class) (i q : Nat) (u : List Nat) (c : Class), meanWith S p i q u (l ++ [c]) = ((meanWith S p i q u l).1 * c.weights.sum, keptU S ((0 :: p).getD (i + l.length) 0) c (meanWith S p i q u l).1 (meanWith S p i q u l).2)
  | [], i, q, u, c => by
    rw [List.nil_append, meanWith_cons]
    rfl
  | d :: l, i, q, u, c => by
    rw [List.cons_append, meanWith_cons, meanWith_cons, mw_snoc S p l, List.length_cons, show i + 1 + l.length = i + (l.length + 1) by omega]
theorem mk_eq (S : Nat) (p : List Nat) (hp : ∀ j, (0 :: p).getD j 0 = 0) : ∀ cs : List Class, meanWith S p 0 1 (zeros S) cs.reverse = meanKnown S cs
  | [] => rfl
  | c :: cs => by
    rw [List.reverse_cons, mw_snoc, mk_eq S p hp cs, hp]
    show (_, _) = ((meanKnown S cs).1 * c.weights.sum, _)
    congr 1
    unfold keptU ksum kterm
    refine List.map_congr_left fun x _ => ?_
    congr 1
    refine List.map_congr_left fun r _ => ?_
    rw [Nat.sub_zero, Nat.mul_assoc]
theorem rep_getD (n j : Nat) : (0 :: List.replicate n 0).getD j 0 = 0 := by
  have e : 0 :: List.replicate n 0 = zeros n := rfl
  rw [e]
  exact zeros_getD n j
theorem requested_yes {st : State} {t x i : Nat} {r : List Nat} (h : Vbahal.accepts st t x i = true) : Vbahal.requested st t x (i :: r) = 1 :: Vbahal.requested st (t - 1) (x - 1) r := by
  show (if Vbahal.accepts st t x i = true then _ else _) = _
  rw [if_pos h]
theorem requested_no {st : State} {t x i : Nat} {r : List Nat} (h : ¬ Vbahal.accepts st t x i = true) : Vbahal.requested st t x (i :: r) = 0 :: Vbahal.requested st (t - 1) x r := by
  show (if Vbahal.accepts st t x i = true then _ else _) = _
  rw [if_neg h]
def earned (st : State) (l q : List Nat) : Nat := ((l.zip q).map fun p => p.1 * Vbahal.fareOf st p.2).sum
theorem earned_snoc {st : State} : ∀ {l q : List Nat} {a i : Nat}, l.length = q.length → earned st (l ++ [a]) (q ++ [i]) = earned st l q + a * Vbahal.fareOf st i
  | l, q, a, i, h => by
    unfold earned
    rw [List.zip_append h, List.map_append, List.sum_append]
    simp
end Ks
namespace Ks
open PySem PySem.Spec PyProof.Rows L2
open Vbahal (Class State)
structure PlanAt0 (CP : Addr) (H : Hp) (p pa : Addr) (foot : List Addr) (st : State) : Prop where
  ex : ∃ (dx : Addr) (fs : List (Str × V)) (fa wa : Addr) (was : List Addr), foot = p :: fa :: wa :: was ∧ H p = some (.ins CP dx fs) ∧ fs.length ≤ 10 ∧ fs.lookup ("seats" : Str) = some (nv st.seats) ∧ fs.lookup ("fares" : Str) = some (.ref fa) ∧ fs.lookup ("weights" : Str) = some (.ref wa) ∧ fs.lookup ("periods" : Str) = some (.ref pa) ∧
    H fa = some (.lst (NL (st.classes.map (·.fare)))) ∧ H wa = some (.lst (was.map V.ref)) ∧ was.length = st.classes.length ∧ (∀ (j : Nat) (a : Addr) (c : Class), was[j]? = some a → st.classes[j]? = some c → H a = some (.lst (NL c.weights))) ∧ (fa :: wa :: was).Nodup
theorem PlanAt0.same {CP : Addr} {H H' : Hp} {p pa : Addr} {foot : List Addr} {st : State} (h : PlanAt0 CP H p pa foot st) (s : Same H H') : PlanAt0 CP H' p pa foot st := by
  obtain ⟨dx, fs, fa, wa, was, e, h1, h2, h3, h4, h5, hq, h6, h7, h8, h9, h10⟩ := h.ex
  exact ⟨dx, fs, fa, wa, was, e, s _ _ h1, h2, h3, h4, h5, hq, s _ _ h6, s _ _ h7, h8, fun j a c e1 e2 => s _ _ (h9 j a c e1 e2), h10⟩
theorem PlanAt0.r {K : PySem.W.Frag} {CP : Addr} {H : Hp} {p pa : Addr} {foot : List Addr} {st : State} (h : PlanAt0 CP H p pa foot st) : PlanR K CP H p st := by
  obtain ⟨dx, fs, fa, wa, was, e, h1, h2, h3, h4, h5, hq, h6, h7, h8, h9, h10⟩ := h.ex
  refine ⟨dx, fs, fa, wa, h1, h3, h4, h5, SqL.of h6, was, SqL.of h7, by rw [List.length_map]; exact h8, fun j a ws e1 e2 => ?_⟩
  rw [List.getElem?_map] at e2
  cases ec : st.classes[j]? with
  | none => rw [ec] at e2; cases e2
  | some c =>
    rw [ec] at e2
    cases e2
    exact SqL.of (h9 j a c e1 ec)
theorem PlanAt0.there {CP : Addr} {H : Hp} {p pa : Addr} {foot : List Addr} {st : State} (h : PlanAt0 CP H p pa foot st) : ∀ b ∈ foot, ∃ o, H b = some o := by
  obtain ⟨dx, fs, fa, wa, was, e, h1, h2, h3, h4, h5, hq, h6, h7, h8, h9, h10⟩ := h.ex
  intro b hb
  rw [e] at hb
  rcases List.mem_cons.mp hb with q | hb
  · exact ⟨_, by rw [q]; exact h1⟩
  rcases List.mem_cons.mp hb with q | hb
  · exact ⟨_, by rw [q]; exact h6⟩
  rcases List.mem_cons.mp hb with q | hb
  · exact ⟨_, by rw [q]; exact h7⟩
  · obtain ⟨j, hj, ej⟩ := List.getElem_of_mem hb
    exact ⟨_, h9 j b st.classes[j] (by rw [List.getElem?_eq_getElem hj, ej]) (List.getElem?_eq_getElem (by omega))⟩
theorem PlanAt0.fresh {CP : Addr} {H : Hp} {p pa : Addr} {foot : List Addr} {st : State} (h : PlanAt0 CP H p pa foot st) {l : Addr} (hl : H l = none) : l ∉ foot := fun hb => by
  obtain ⟨o, ho⟩ := h.there l hb
  rw [hl] at ho
  cases ho
structure PersAt (H : Hp) (pa : Addr) (pas : List Addr) (ps : List (List Nat)) : Prop where
  lst : H pa = some (.lst (pas.map V.ref))
  len : pas.length = ps.length
  at' : ∀ (j : Nat) (a : Addr) (r : List Nat), pas[j]? = some a → ps[j]? = some r → H a = some (.lst (NL r))
theorem PersAt.keep {H H' : Hp} {pa : Addr} {pas : List Addr} {ps : List (List Nat)} (h : PersAt H pa pas ps) (k : ∀ b o, H b = some o → b ∈ pa :: pas → H' b = some o) : PersAt H' pa pas ps :=
  ⟨k _ _ h.lst (by simp), h.len, fun j a r e1 e2 => k _ _ (h.at' j a r e1 e2) (by simp [List.mem_of_getElem? e1])⟩
theorem PersAt.there {H : Hp} {pa : Addr} {pas : List Addr} {ps : List (List Nat)} (h : PersAt H pa pas ps) : ∀ b ∈ pa :: pas, ∃ o, H b = some o := fun b hb => by
  rcases List.mem_cons.mp hb with q | hb
  · exact ⟨_, by rw [q]; exact h.lst⟩
  · obtain ⟨j, hj, ej⟩ := List.getElem_of_mem hb
    have := h.len
    exact ⟨_, h.at' j b ps[j] (by rw [List.getElem?_eq_getElem hj, ej]) (List.getElem?_eq_getElem (by omega))⟩
structure PlanAt (CP : Addr) (H : Hp) (p : Addr) (foot : List Addr) (st : State) : Prop where
  ex : ∃ (pa : Addr) (pas foot0 : List Addr), foot = foot0 ++ pa :: pas ∧ PlanAt0 CP H p pa foot0 st ∧ PersAt H pa pas st.periods ∧ pa ∉ pas ∧ ∀ b ∈ pa :: pas, b ∉ foot0
theorem PlanAt.same {CP : Addr} {H H' : Hp} {p : Addr} {foot : List Addr} {st : State} (h : PlanAt CP H p foot st) (s : Same H H') : PlanAt CP H' p foot st := by
  obtain ⟨pa, pas, foot0, e, h1, h2, h3, h4⟩ := h.ex
  exact ⟨pa, pas, foot0, e, h1.same s, h2.keep fun b o e _ => s _ _ e, h3, h4⟩
theorem PlanAt.r {K : PySem.W.Frag} {CP : Addr} {H : Hp} {p : Addr} {foot : List Addr} {st : State} (h : PlanAt CP H p foot st) : PlanR K CP H p st := by
  obtain ⟨pa, pas, foot0, e, h1, _⟩ := h.ex
  exact h1.r
theorem PlanAt.there {CP : Addr} {H : Hp} {p : Addr} {foot : List Addr} {st : State} (h : PlanAt CP H p foot st) : ∀ b ∈ foot, ∃ o, H b = some o := by
  obtain ⟨pa, pas, foot0, e, h1, h2, _⟩ := h.ex
  intro b hb
  rw [e] at hb
  rcases List.mem_append.mp hb with q | q
  · exact h1.there b q
  · exact h2.there b q
theorem PlanAt.fresh {CP : Addr} {H : Hp} {p : Addr} {foot : List Addr} {st : State} (h : PlanAt CP H p foot st) {l : Addr} (hl : H l = none) : l ∉ foot := fun hb => by
  obtain ⟨o, ho⟩ := h.there l hb
  rw [hl] at ho
  cases ho
theorem nodup_set : ∀ {l : List Addr} {i : Nat} {r : Addr}, l.Nodup → r ∉ l → (l.set i r).Nodup
  | [], _, _, _, _ => by simp
  | a :: l, 0, r, h, hr => by
    obtain ⟨h1, h2⟩ := List.nodup_cons.mp h
    exact List.nodup_cons.mpr ⟨fun m => hr (List.mem_cons_of_mem _ m), h2⟩
  | a :: l, i + 1, r, h, hr => by
    obtain ⟨h1, h2⟩ := List.nodup_cons.mp h
    refine List.nodup_cons.mpr ⟨fun m => ?_, nodup_set h2 fun m => hr (List.mem_cons_of_mem _ m)⟩
    rcases List.mem_or_eq_of_mem_set m with e | e
    · exact h1 e
    · exact hr (by rw [e]; exact List.mem_cons_self ..)
theorem mod_ne {α : Type} {l : List α} {f : α → α} {i j : Nat} (h : ¬ i = j) : (l.modify i f)[j]? = l[j]? := by
  rw [List.getElem?_modify]
  simp [h]
theorem mod_eq {α : Type} {l : List α} {f : α → α} {i : Nat} : (l.modify i f)[i]? = l[i]?.map f := by
  rw [List.getElem?_modify]
  simp
theorem modify_fares : ∀ (l : List Class) (i : Nat) (ws : List Nat), (l.modify i fun c => { c with weights := ws }).map (·.fare) = l.map (·.fare)
  | [], i, ws => by simp
  | a :: l, 0, ws => by
    rw [List.modify_zero_cons]
    rfl
  | a :: l, i + 1, ws => by
    rw [List.modify_succ_cons, List.map_cons, List.map_cons, modify_fares l i ws]
def spMut (CP : Addr) (C : State → List Nat → List (List Nat) → Vbahal.Call → Prop) : Sp := fun vs H Q _ => ∃ (p nu ro : Addr) (foot as : List Addr) (st : State) (ns : List Nat) (rows : List (List Nat)) (c : Vbahal.Call), vs = [.ref p, .ref nu, .ref ro] ∧
  PlanAt CP H p foot st ∧ StOk st ∧ H nu = some (.lst (NL ns)) ∧ H ro = some (.lst (as.map V.ref)) ∧ as.length = rows.length ∧ (∀ (j : Nat) (a : Addr) (r : List Nat), as[j]? = some a → rows[j]? = some r → H a = some (.lst (NL r))) ∧ (∀ a ∈ as, a ∉ foot) ∧ C st ns rows c ∧ CallOk c ∧
  ∀ (H' : Hp) (l : Addr) (foot' : List Addr), PlanAt CP H' p foot' (Vbahal.step st c).1 → (∀ b o, H b = some o → b ∉ foot → H' b = some o) → (∀ b ∈ foot', b ∈ foot ∨ b ∈ as ∨ H b = none) → H l = none → H' l = some (.lst ((Vbahal.step st c).2.map V.int)) → l ∉ foot' → Q (.ref l) H'
theorem spRO_mut {K : PySem.W.Frag} {CP : Addr} {C : State → List Nat → List (List Nat) → Vbahal.Call → Prop} (hC : ∀ st ns rows c, C st ns rows c → 0 < st.classes.length ∧ (Vbahal.step st c).1 = st) {vs : List V} {H : Hp} {Q : VK} {E : XK} (h : spMut CP C vs H Q E) : spRO K CP C vs H Q E := by
  obtain ⟨p, nu, ro, foot, as, st, ns, rows, c, rfl, hp, ok, hnu, hro, hal, hat, hnf, hc, hk, q⟩ := h
  obtain ⟨c1, c2⟩ := hC st ns rows c hc
  refine ⟨p, nu, ro, st, ns, rows, c, rfl, hp.r, ok, c1, SqL.of hnu, ⟨as, hro, hal, hat⟩, hc, fun H' l s hl hl' => ?_⟩
  rw [c2] at q
  exact q H' l foot (hp.same s) (fun b o e _ => s b o e) (fun b hb => .inl hb) hl hl' (hp.fresh hl)
def spRP (CP : Addr) (C : State → List Nat → List (List Nat) → Vbahal.Call → Prop) : Sp := fun vs H Q _ => ∃ (p nu ro : Addr) (foot : List Addr) (st : State) (ns : List Nat) (rows : List (List Nat)) (c : Vbahal.Call), vs = [.ref p, .ref nu, .ref ro] ∧
  PlanAt CP H p foot st ∧ StOk st ∧ 0 < st.classes.length ∧ H nu = some (.lst (NL ns)) ∧ RowsH H ro rows ∧ C st ns rows c ∧ CallOk c ∧
  ∀ (H' : Hp) (l : Addr), Same H H' → H l = none → H' l = some (.lst ((Vbahal.step st c).2.map V.int)) → Q (.ref l) H'
theorem spRP_mut {CP : Addr} {C : State → List Nat → List (List Nat) → Vbahal.Call → Prop} (hC : ∀ st ns rows c, C st ns rows c → 0 < st.classes.length ∧ (Vbahal.step st c).1 = st) {vs : List V} {H : Hp} {Q : VK} {E : XK} (h : spMut CP C vs H Q E) : spRP CP C vs H Q E := by
  obtain ⟨p, nu, ro, foot, as, st, ns, rows, c, rfl, hp, ok, hnu, hro, hal, hat, hnf, hc, hk, q⟩ := h
  obtain ⟨c1, c2⟩ := hC st ns rows c hc
  refine ⟨p, nu, ro, foot, st, ns, rows, c, rfl, hp, ok, c1, hnu, ⟨as, hro, hal, hat⟩, hc, hk, fun H' l s hl hl' => ?_⟩
  rw [c2] at q
  exact q H' l foot (hp.same s) (fun b o e _ => s b o e) (fun b hb => .inl hb) hl hl' (hp.fresh hl)
def spMut0 (CP : Addr) (C : State → List Nat → List (List Nat) → Vbahal.Call → Prop) : Sp := fun vs H Q _ => ∃ (p pa nu ro : Addr) (foot as : List Addr) (st : State) (ns : List Nat) (rows : List (List Nat)) (c : Vbahal.Call), vs = [.ref p, .ref nu, .ref ro] ∧
  PlanAt0 CP H p pa foot st ∧ StOk st ∧ H nu = some (.lst (NL ns)) ∧ H ro = some (.lst (as.map V.ref)) ∧ as.length = rows.length ∧ (∀ (j : Nat) (a : Addr) (r : List Nat), as[j]? = some a → rows[j]? = some r → H a = some (.lst (NL r))) ∧ (∀ a ∈ as, a ∉ foot) ∧ C st ns rows c ∧ CallOk c ∧
  ∀ (H' : Hp) (l : Addr) (foot' : List Addr), PlanAt0 CP H' p pa foot' (Vbahal.step st c).1 → (∀ b o, H b = some o → b ∉ foot → H' b = some o) → (∀ b ∈ foot', b ∈ foot ∨ b ∈ as ∨ H b = none) → H l = none → H' l = some (.lst ((Vbahal.step st c).2.map V.int)) → l ∉ foot' → Q (.ref l) H'
theorem mut0 {CP : Addr} {C : State → List Nat → List (List Nat) → Vbahal.Call → Prop} (hC : ∀ st ns rows c, C st ns rows c → (Vbahal.step st c).1.periods = st.periods) {vs : List V} {H : Hp} {Q : VK} {E : XK} (h : spMut CP C vs H Q E) : spMut0 CP C vs H Q E := by
  obtain ⟨p, nu, ro, foot, as, st, ns, rows, c, rfl, hp, ok, hnu, hro, hal, hat, hnf, hc, hk, q⟩ := h
  obtain ⟨pa, pas, foot0, e, h1, h2, h3, h4⟩ := hp.ex
  refine ⟨p, pa, nu, ro, foot0, as, st, ns, rows, c, rfl, h1, ok, hnu, hro, hal, hat, fun a ha m => hnf a ha (by rw [e]; exact List.mem_append_left _ m), hc, hk, fun H' l foot' g1 g2 g3 g4 g5 g6 => ?_⟩
  have hper : PersAt H' pa pas st.periods := h2.keep fun b o eb hb => g2 b o eb (h4 b hb)
  refine q H' l (foot' ++ pa :: pas) ⟨pa, pas, foot', rfl, g1, by rw [hC st ns rows c hc]; exact hper, h3, fun b hb m => ?_⟩ (fun b o eb hb => g2 b o eb fun m => hb (by rw [e]; exact List.mem_append_left _ m)) (fun b hb => ?_) g4 g5 fun m => ?_
  · rcases g3 b m with g | g | g
    · exact h4 b hb g
    · exact hnf b g (by rw [e]; exact List.mem_append_right _ hb)
    · obtain ⟨o, ho⟩ := h2.there b hb
      rw [g] at ho
      cases ho
  · rcases List.mem_append.mp hb with g | g
    · rcases g3 b g with z | z | z
      · exact .inl (by rw [e]; exact List.mem_append_left _ z)
      · exact .inr (.inl z)
      · exact .inr (.inr z)
    · exact .inl (by rw [e]; exact List.mem_append_right _ g)
  · rcases List.mem_append.mp m with g | g
    · exact g6 g
    · obtain ⟨o, ho⟩ := h2.there l g
      rw [g4] at ho
      cases ho
section
variable {P : Program} {w : World} {K : PySem.W.Frag} {mg : Str → Option Value} {base : Heap} {CW CC CP : Addr}
def CDemand (st : State) (ns : List Nat) (rows : List (List Nat)) (c : Vbahal.Call) : Prop := ∃ i ws, ns = [i] ∧ rows = [ws] ∧ i < st.classes.length ∧ c = .demand i ws
theorem one_row {as : List Addr} {rows : List (List Nat)} {d : List Nat} {H : Hp} (hal : as.length = rows.length) (hat : ∀ (j : Nat) (a : Addr) (r : List Nat), as[j]? = some a → rows[j]? = some r → H a = some (.lst (NL r))) (hr : rows = [d]) : ∃ r, as = [r] ∧ H r = some (.lst (NL d)) := by
  subst hr
  match as, hal with
  | [r], _ => exact ⟨r, rfl, hat 0 r d rfl rfl⟩
theorem eq0 {a : Nat} : decide (V.int (a : Int) = V.int 0) = decide (a = 0) := by
  by_cases e : a = 0
  · subst e
    rfl
  · have : ¬ V.int (a : Int) = V.int 0 := fun z => e (by injection z with z; omega)
    simp [this, e]
theorem per_demand : ∀ (st : State) (ns : List Nat) (rows : List (List Nat)) (c : Vbahal.Call), CDemand st ns rows c → (Vbahal.step st c).1.periods = st.periods := by
  rintro st ns rows c ⟨i, ws, rfl, rfl, hi, rfl⟩
  show (Vbahal.has st i _).1.periods = _
  rw [has_ok hi]
  split <;> rfl
theorem ok_demand (F : FnIn K mg "demand" s_demand ["plan", "numbers", "rows"]) (T : Txt K mg CW CC CP) : FnDo P w K mg base 1 "demand" s_demand ["plan", "numbers", "rows"] (spMut CP CDemand) := by
  refine F.doIt sc_demand (fun vs H Q E h => ?_) (fun f cdv A outer s H vs Q E hr h => ?_)
  · obtain ⟨p, nu, ro, foot, as, st, ns, rows, c, rfl, _⟩ := h
    rfl
  · obtain ⟨p, pa, nu, ro, foot, as, st, ns, rows, c, rfl, hp, ok, hnu, hro, hal, hat, hnf, ⟨i, ws, rfl, hrows, hi, rfl⟩, hk, q⟩ := mut0 per_demand h
    refine ⟨_, (pss_cons (ps_if (pt_cmpR op_eq (pe_callB (cr_sumK K rfl rfl) (by rfl) T.no_sum boot_sum (pa_cons (pe_ix (ix_listK K rfl) (pv 2) pe_int (fun _ _ => rfl)) pa_nil)) pe_int (nomark _)) (pss_one (ps_ret (pe_lst (pa_cons (pe_un un_neg pe_int) pa_nil)))) pss_nil) (pss_cons (ps_asg (pe_ix (ix_listK K rfl) (pv 2) pe_int (fun _ _ => rfl)) (pg_sub (pe_fldK K rfl (pv 0) rfl) (pe_ix (ix_listK K rfl) (pv 1) pe_int (fun _ _ => rfl)) set_list)) (pss_one (ps_ret (pe_lst (pa_cons pe_int pa_nil)))))), ?_⟩
    obtain ⟨r, rfl, hrw⟩ := one_row hal hat hrows
    obtain ⟨dx, fs, fa, wa, was, rfl, h1, h2, h3, h4, h5, hq, h6, h7, h8, h9, h10⟩ := id hp.ex
    have hstep : Vbahal.step st (.demand i ws) = if ws.sum = 0 then (st, [-5]) else (Vbahal.withWeights st i ws, [0]) := by
      show Vbahal.has st i _ = _
      rw [has_ok hi]
    rw [hstep] at q
    refine ⟨_, rfl, ro, _, _, V.ref r, rfl, rfl, SqL.of hro, atI_nat (j := 0) rfl, ?_⟩
    unfold tNil
    refine sumNL (SqL.of hrw) ⟨rfl, _, rfl, ?_⟩
    rw [eq0]
    refine ite2 (fun hc => ?_) (fun hc => ?_)
    · have hc := of_decide_eq_true hc
      rw [if_pos hc] at q
      refine ⟨_, rfl, (by show 1 ≤ sizeLine; decide), fun l hl => ?_⟩
      exact q _ l _ (hp.same (Same.upd_new hl)) (fun b o e _ => Same.upd_new hl b o e) (fun b hb => .inl hb) hl upd_same (hp.fresh hl)
    · have hc : ¬ ws.sum = 0 := fun h => hc (decide_eq_true h)
      rw [if_neg hc] at q
      refine ⟨_, rfl, ro, _, _, V.ref r, rfl, rfl, SqL.of hro, atI_nat (j := 0) rfl, _, rfl, p, CP, dx, fs, _, rfl, h1, T.cP, T.p_weights, h5, _, rfl, nu, _, _, _, rfl, rfl, SqL.of hnu, NL_at (l := [i]) (i := 0) rfl, wa, _, _, i, rfl, rfl, h7, ixN_nat (by rw [List.length_map, h8]; exact hi), ?_⟩
      refine ⟨(by show 1 ≤ sizeLine; decide), fun l hl => ?_⟩
      have hrf := hnf r (by simp)
      have hr1 : r ≠ wa := fun e => hrf (by simp [e])
      have hl1 : l ≠ wa := fun e => by rw [e, upd_same] at hl; cases hl
      have hHl : H l = none := by rw [upd_ne hl1] at hl; exact hl
      obtain ⟨n1, n2⟩ := List.nodup_cons.mp h10
      obtain ⟨n3, n4⟩ := List.nodup_cons.mp n2
      have kp : ∀ b o, H b = some o → b ≠ wa → upd (upd H wa (.lst ((was.map V.ref).set i (V.ref r)))) l (.lst [V.int 0]) b = some o := fun b o e hb => by
        rw [upd_ne (ne_of_none e hHl), upd_ne hb]
        exact e
      refine q _ l (p :: fa :: wa :: was.set i r) ⟨dx, fs, fa, wa, was.set i r, rfl, kp _ _ h1 (ne_of h1 h7 (by intro z; cases z)), h2, h3, h4, h5, hq, ?_, ?_, ?_, ?_, ?_⟩ (fun b o e hb => kp b o e fun q => hb (by simp [q])) (fun b hb => ?_) hHl upd_same ?_
      · rw [show ((Vbahal.withWeights st i ws, ([0] : List Int)).1).classes.map (·.fare) = st.classes.map (·.fare) from modify_fares _ _ _]
        exact kp _ _ h6 (fun q => n1 (by simp [q]))
      · rw [upd_ne (fun q => hl1 q.symm), upd_same, List.map_set]
      · show (was.set i r).length = (st.classes.modify i _).length
        rw [List.length_set, List.length_modify, h8]
      · intro j a c e1 e2
        have e2 : (st.classes.modify i fun c => { c with weights := ws })[j]? = some c := e2
        by_cases hj : i = j
        · subst hj
          rw [List.getElem?_set_self (by omega)] at e1
          cases e1
          rw [mod_eq, List.getElem?_eq_getElem hi] at e2
          cases e2
          exact kp _ _ hrw hr1
        · rw [List.getElem?_set_ne hj] at e1
          rw [mod_ne hj] at e2
          exact kp _ _ (h9 j a c e1 e2) fun q => n3 (by rw [← q]; exact List.mem_of_getElem? e1)
      · refine List.nodup_cons.mpr ⟨fun m => ?_, List.nodup_cons.mpr ⟨fun m => ?_, nodup_set n4 fun m => hrf (by simp [m])⟩⟩
        · rcases List.mem_cons.mp m with e | e
          · exact n1 (by simp [e])
          · rcases List.mem_or_eq_of_mem_set e with e | e
            · exact n1 (by simp [e])
            · exact hrf (by simp [← e])
        · rcases List.mem_or_eq_of_mem_set m with e | e
          · exact n3 e
          · exact hr1 e.symm
      · rcases List.mem_cons.mp hb with e | hb
        · exact .inl (by simp [e])
        rcases List.mem_cons.mp hb with e | hb
        · exact .inl (by simp [e])
        rcases List.mem_cons.mp hb with e | hb
        · exact .inl (by simp [e])
        rcases List.mem_or_eq_of_mem_set hb with e | e
        · exact .inl (by simp [e])
        · exact .inr (.inl (by simp [e]))
      · intro hb
        have hf := hp.fresh hHl
        rcases List.mem_cons.mp hb with e | hb
        · exact hf (by simp [e])
        rcases List.mem_cons.mp hb with e | hb
        · exact hf (by simp [e])
        rcases List.mem_cons.mp hb with e | hb
        · exact hf (by simp [e])
        rcases List.mem_or_eq_of_mem_set hb with e | e
        · exact hf (by simp [e])
        · rw [e, hrw] at hHl
          cases hHl
end
end Ks
namespace Ks
open PySem PySem.Spec PyProof.Rows L2
open Vbahal (Class State)
section
variable {P : Program} {w : World} {K : PySem.W.Frag} {mg : Str → Option Value} {base : Heap} {CW CC CP : Addr}
def CObserve (st : State) (ns : List Nat) (rows : List (List Nat)) (c : Vbahal.Call) : Prop := ∃ i d, ns = [i, d] ∧ i < st.classes.length ∧ c = .observe i d
theorem PlanAt0.put {H H' : Hp} {p pa : Addr} {st : State} {i : Nat} {a fa wa : Addr} {was : List Addr} {ws : List Nat} (hp : PlanAt0 CP H p pa (p :: fa :: wa :: was) st) (ha : was[i]? = some a) (hi : i < st.classes.length) (ha' : H' a = some (.lst (NL ws))) (kp : ∀ b o, H b = some o → b ≠ a → H' b = some o) :
    PlanAt0 CP H' p pa (p :: fa :: wa :: was) (Vbahal.withWeights st i ws) := by
  obtain ⟨dx, fs, fa', wa', was', e, h1, h2, h3, h4, h5, hq, h6, h7, h8, h9, h10⟩ := hp.ex
  cases e
  obtain ⟨n1, n2⟩ := List.nodup_cons.mp h10
  obtain ⟨n3, n4⟩ := List.nodup_cons.mp n2
  have hm : a ∈ was := List.mem_of_getElem? ha
  have haa : H a = some (.lst (NL st.classes[i].weights)) := h9 i a st.classes[i] ha (List.getElem?_eq_getElem hi)
  refine ⟨dx, fs, fa, wa, was, rfl, kp _ _ h1 (ne_of h1 haa (by intro z; cases z)), h2, h3, h4, h5, hq, ?_, kp _ _ h7 fun q => n3 (by rw [q]; exact hm), ?_, ?_, h10⟩
  · rw [show (Vbahal.withWeights st i ws).classes.map (·.fare) = st.classes.map (·.fare) from modify_fares _ _ _]
    exact kp _ _ h6 fun q => n1 (by rw [q]; exact List.mem_cons_of_mem _ hm)
  · show was.length = (st.classes.modify i _).length
    rw [List.length_modify, h8]
  · intro j b c e1 e2
    have e2 : (st.classes.modify i fun c => { c with weights := ws })[j]? = some c := e2
    by_cases hj : i = j
    · subst hj
      rw [ha] at e1
      cases e1
      rw [mod_eq, List.getElem?_eq_getElem hi] at e2
      cases e2
      exact ha'
    · rw [mod_ne hj] at e2
      exact kp _ _ (h9 j b c e1 e2) fun q => hj (nd_ix n4 ha (by rw [← q]; exact e1))
theorem tIfS_of {tc : TT} {t u : TS} {D : Ends} {σ : L2.St} {H : Hp} (b : Bool) (ht : ∀ Qt : Bool → Hp → Prop, Qt b H → tc σ H Qt) (h : if b = true then t D σ H else u D σ H) : tIfS tc t u D σ H := ht _ h
theorem seqIf_of {tc : TT} {t u r : TS} {D : Ends} {σ : L2.St} {H : Hp} (b : Bool) (ht : ∀ Qt : Bool → Hp → Prop, Qt b H → tc σ H Qt) (h : if b = true then t { D with nx := r D } σ H else u { D with nx := r D } σ H) : tSeq (tIfS tc t u) r D σ H := ht _ h
theorem obs_eq (w : List Nat) (d : Nat) : Vbahal.observed w d = (w ++ List.replicate (d + 1 - w.length) 0).set d ((w ++ List.replicate (d + 1 - w.length) 0).getD d 0 + 1) := rfl
theorem per_observe : ∀ (st : State) (ns : List Nat) (rows : List (List Nat)) (c : Vbahal.Call), CObserve st ns rows c → (Vbahal.step st c).1.periods = st.periods := by
  rintro st ns rows c ⟨i, d, rfl, hi, rfl⟩
  show (Vbahal.has st i _).1.periods = _
  rw [has_ok hi]
  split <;> rfl
theorem ok_observe (F : FnIn K mg "observe" s_observe ["plan", "numbers", "rows"]) (T : Txt K mg CW CC CP) : FnDo P w K mg base 1 "observe" s_observe ["plan", "numbers", "rows"] (spMut CP CObserve) := by
  refine F.doIt sc_observe (fun vs H Q E h => ?_) (fun f cdv A outer s H vs Q E hr h => ?_)
  · obtain ⟨p, nu, ro, foot, as, st, ns, rows, c, rfl, _⟩ := h
    rfl
  · obtain ⟨p, pa, nu, ro, foot, as, st, ns, rows, c, rfl, hp, ok, hnu, hro, hal, hat, hnf, ⟨i, d, rfl, hi, rfl⟩, hk, q⟩ := mut0 per_observe h
    refine ⟨_, (pss_cons (ps_set (i := 3) sc_observe.nd rfl (by first | exact Or.inl rfl | exact Or.inr rfl) (pe_ix (ix_listK K rfl) (pe_fldK K rfl (pv 0) rfl) (pe_ix (ix_listK K rfl) (pv 1) pe_int (fun _ _ => rfl)) (fun _ _ => rfl))) (pss_cons (ps_set (i := 4) sc_observe.nd rfl (by first | exact Or.inl rfl | exact Or.inr rfl) (pe_ix (ix_listK K rfl) (pv 1) pe_int (fun _ _ => rfl))) (pss_cons (ps_if (PW.pt (pw_and (pt_cmpR op_lt (pv 4) (pe_callB (call_lenK K rfl) (by rfl) T.no_len PySem.boot_len (pa_cons (pv 3) pa_nil)) (nomark _)) (pw_and1 (pt_cmpR op_eq (pe_ix (ix_listK K rfl) (pv 3) (pv 4) (fun _ _ => rfl)) pe_int (nomark _))))) (pss_one (ps_ret (pe_lst (pa_cons (pe_un un_neg pe_int) pa_nil)))) pss_nil) (pss_cons (ps_while PassesOwn.never (pt_cmpR op_le (pe_callB (call_lenK K rfl) (by rfl) T.no_len PySem.boot_len (pa_cons (pv 3) pa_nil)) (pv 4) (nomark _)) (pss_one (ps_expr (pe_bm PySem.F.plainAttrs_list PySem.F.slot_list_append PySem.F.type_list_append mt_append (pv 3) (pa_cons pe_int pa_nil))))) (pss_cons (ps_augS (pv 3) (pv 4) (get_listK K rfl) pe_int ip_add set_list) (pss_one (ps_ret (pe_lst (pa_cons pe_int (pa_cons (pe_callB (cr_sumK K rfl rfl) (by rfl) T.no_sum boot_sum (pa_cons (pv 3) pa_nil)) pa_nil)))))))))), ?_⟩
    have hd : d ≤ 20 := hk
    obtain ⟨dx, fs, fa, wa, was, rfl, h1, h2, h3, h4, h5, hq, h6, h7, h8, h9, h10⟩ := id hp.ex
    obtain ⟨c, hc, ew, g⟩ := weightsOf_good ok hi
    obtain ⟨a, ha⟩ : ∃ a, was[i]? = some a := ⟨_, List.getElem?_eq_getElem (by omega)⟩
    have haa : H a = some (.lst (NL c.weights)) := h9 i a c ha hc
    have hstep : Vbahal.step st (.observe i d) = if 1000 ≤ c.weights.getD d 0 then (st, [-6]) else (Vbahal.withWeights st i (Vbahal.observed c.weights d), Vbahal.ok [(Vbahal.observed c.weights d).sum]) := by
      show Vbahal.has st i _ = _
      rw [has_ok hi, ew]
    rw [hstep] at q
    have glen := g.len
    refine ⟨_, rfl, p, CP, dx, fs, _, rfl, h1, T.cP, T.p_weights, h5, _, rfl, nu, _, _, _, rfl, rfl, SqL.of hnu, NL_at (l := [i, d]) (i := 0) rfl, wa, _, _, V.ref a, rfl, rfl, SqL.of h7, atI_nat (by rw [List.getElem?_map, ha]; rfl), ?_⟩
    refine ⟨_, rfl, nu, _, _, _, rfl, rfl, SqL.of hnu, NL_at (l := [i, d]) (i := 1) rfl, ?_⟩
    dsimp only [gName]
    refine seqIf_of (decide (1000 ≤ c.weights.getD d 0)) (fun Qt hq => ?_) ?_
    · refine ⟨_, rfl, _, rfl, a, _, rfl, .inl (SqL.of haa), _, _, rfl, rfl, _, rfl, ?_⟩
      rw [NL_len]
      refine ite2 (fun hc1 => ?_) (fun hc1 => ?_)
      · have hc1 : d < c.weights.length := by
          have := of_decide_eq_true hc1
          omega
        refine ⟨_, rfl, _, rfl, a, _, _, _, rfl, rfl, SqL.of haa, NL_getD hc1, rfl, _, rfl, ?_⟩
        have e : decide (V.int ((c.weights.getD d 0 : Nat) : Int) = V.int 1000) = decide (1000 ≤ c.weights.getD d 0) := by
          have hle : c.weights.getD d 0 ≤ 1000 := by
            rw [List.getD_eq_getElem?_getD, List.getElem?_eq_getElem hc1]
            exact g.le _ (List.getElem_mem hc1)
          by_cases h : c.weights.getD d 0 = 1000
          · rw [h]
            rfl
          · have h2 : ¬ V.int ((c.weights.getD d 0 : Nat) : Int) = V.int 1000 := fun z => h (by injection z with z; omega)
            rw [decide_eq_false h2, decide_eq_false (by omega)]
        rw [e]
        exact hq
      · have hc1 : ¬ d < c.weights.length := fun h => hc1 (decide_eq_true (by omega))
        have e : decide (1000 ≤ c.weights.getD d 0) = false := by
          rw [List.getD_eq_getElem?_getD, List.getElem?_eq_none (by omega)]
          rfl
        rw [e] at hq
        exact hq
    refine ite2 (fun hb => ?_) (fun hb => ?_)
    · rw [if_pos (of_decide_eq_true hb)] at q
      refine ⟨_, rfl, (by show 1 ≤ sizeLine; decide), fun l hl => ?_⟩
      exact q _ l _ (hp.same (Same.upd_new hl)) (fun b o e _ => Same.upd_new hl b o e) (fun b hb => .inl hb) hl upd_same (hp.fresh hl)
    · rw [if_neg (fun h => hb (decide_eq_true h))] at q
      refine while_by (fun σ H' => σ = [some (.ref p), some (.ref nu), some (.ref ro), some (.ref a), some (nv d)] ∧ (∀ b o, H b = some o → b ≠ a → H' b = some o) ∧ ∃ m, H' a = some (.lst (NL (c.weights ++ List.replicate m 0))) ∧ m ≤ d + 1 - c.weights.length)
        (fun σ H' => d + 1 - (match H' a with | some (.lst l) => l.length | _ => 0)) ⟨rfl, fun b o e _ => e, 0, by rw [List.replicate_zero, List.append_nil]; exact haa, Nat.zero_le _⟩ ?_ ?_
      · rintro σ H' ⟨rfl, kp, m, hm, hml⟩
        refine ⟨_, rfl, a, _, rfl, .inl (SqL.of hm), _, rfl, _, _, rfl, rfl, _, rfl, ?_⟩
        rw [NL_len, List.length_append, List.length_replicate]
        refine ite2 (fun hc1 => ?_) (fun hc1 => ?_)
        · have hc1 : c.weights.length + m ≤ d := by
            have := of_decide_eq_true hc1
            omega
          refine ⟨_, rfl, .inl ⟨rfl, _, SqL.of hm⟩, a, _, _, rfl, rfl, hm, ?_, ?_⟩
          · rw [NL_len, List.length_append, List.length_replicate]
            show c.weights.length + m < 16777216
            omega
          refine ⟨⟨rfl, fun b o e hb => by rw [upd_ne hb]; exact kp b o e hb, m + 1, ?_, by omega⟩, ?_⟩
          · rw [upd_same, List.replicate_succ', ← List.append_assoc, NL_app (c.weights ++ List.replicate m 0)]
            rfl
          · rw [upd_same]
            show d + 1 - (NL (c.weights ++ List.replicate m 0) ++ [V.int 0]).length < d + 1 - (match H' a with | some (.lst l) => l.length | _ => 0)
            rw [hm]
            show d + 1 - (NL (c.weights ++ List.replicate m 0) ++ [V.int 0]).length < d + 1 - (NL (c.weights ++ List.replicate m 0)).length
            rw [List.length_append, NL_len, List.length_append, List.length_replicate, List.length_singleton]
            omega
        · have hc1 : d < c.weights.length + m := by
            have : ¬ ((c.weights.length + m : Nat) : Int) ≤ (d : Int) := fun h => hc1 (decide_eq_true h)
            omega
          have hm2 : m = d + 1 - c.weights.length := by omega
          subst hm2
          have hlen : (c.weights ++ List.replicate (d + 1 - c.weights.length) 0).length = c.weights.length + (d + 1 - c.weights.length) := by rw [List.length_append, List.length_replicate]
          generalize hL : c.weights ++ List.replicate (d + 1 - c.weights.length) 0 = L at *
          refine ⟨_, rfl, _, rfl, a, _, _, _, rfl, rfl, SqL.of hm, NL_getD (i := d) (by omega), _, _, rfl, rfl, a, _, _, d, rfl, rfl, hm, ixN_nat (by rw [NL_len]; omega), ?_⟩
          have eset : (NL L).set d (V.int (((L.getD d 0 : Nat) : Int) + 1)) = NL (Vbahal.observed c.weights d) := by
            rw [obs_eq, hL, ← NL_set]
            rfl
          dsimp only
          rw [eset]
          refine ⟨_, rfl, ?_⟩
          unfold tNil
          refine sumNL (SqL.of upd_same) ?_
          refine ⟨(by show 2 ≤ sizeLine; decide), fun l hl => ?_⟩
          have hla : l ≠ a := fun e => by rw [e, upd_same] at hl; cases hl
          have hHl : H l = none := by
            cases e : H l with
            | none => rfl
            | some o =>
              rw [upd_ne hla, kp l o e hla] at hl
              cases hl
          have kp2 : ∀ b o, H b = some o → b ≠ a → upd (upd H' a (.lst (NL (Vbahal.observed c.weights d)))) l (.lst [V.int 0, nv (Vbahal.observed c.weights d).sum]) b = some o := fun b o e hb => by
            rw [upd_ne (ne_of_none e hHl), upd_ne hb]
            exact kp b o e hb
          refine q _ l (p :: fa :: wa :: was) (hp.put (ws := Vbahal.observed c.weights d) ha hi ?_ kp2) (fun b o e hb => kp2 b o e fun z => hb (by rw [z]; simp [List.mem_of_getElem? ha])) (fun b hb => .inl hb) hHl ?_ (hp.fresh hHl)
          · rw [upd_ne (fun z => hla z.symm), upd_same]
          · rw [upd_same]
            rfl
      · intro σ H' Q1 Q2 hm h
        obtain ⟨v, h1, p1, ys1, h2, h3, v2, h4, i, jj, h11, h12, kk, h13, h14⟩ := h
        exact ⟨v, h1, p1, ys1, h2, h3, v2, h4, i, jj, h11, h12, kk, h13, hm _ _ h14⟩
end
end Ks
namespace Ks
open PySem PySem.Spec PyProof.Rows L2
open Vbahal (Class State)
theorem falling_true : ∀ (f : List Nat), (∀ (j a b : Nat), f[j]? = some a → f[j + 1]? = some b → b < a) → Vbahal.falling f = true
  | [], _ => rfl
  | [_], _ => rfl
  | x :: y :: r, h => by
    show (decide (y < x) && Vbahal.falling (y :: r)) = true
    rw [decide_eq_true (h 0 x y rfl rfl), falling_true (y :: r) fun j a b e1 e2 => h (j + 1) a b (by simpa using e1) (by simpa using e2)]
    rfl
theorem falling_false : ∀ (f : List Nat) (j a b : Nat), f[j]? = some a → f[j + 1]? = some b → ¬ b < a → Vbahal.falling f = false
  | x :: y :: r, 0, a, b, h1, h2, h => by
    cases h1
    cases h2
    show (decide _ && _) = false
    rw [decide_eq_false h]
    rfl
  | x :: y :: r, j + 1, a, b, h1, h2, h => by
    show (decide (y < x) && Vbahal.falling (y :: r)) = false
    rw [falling_false (y :: r) j a b (by simpa using h1) (by simpa using h2) h, Bool.and_false]
  | [x], j, a, b, h1, h2, h => by
    simp at h2
theorem len_putF_in (f : Str) (v : V) : ∀ (fs : List (Str × V)) (u : V), fs.lookup f = some u → (putF f v fs).length = fs.length
  | [], u, h => by cases h
  | (g, x) :: r, u, h => by
    unfold putF
    by_cases e : g = f
    · rw [if_pos e]
      rfl
    · rw [if_neg e, List.length_cons, List.length_cons]
      have hb : (f == g) = false := beq_eq_false_iff_ne.mpr fun q => e q.symm
      have h : r.lookup f = some u := by
        unfold List.lookup at h
        rw [hb] at h
        exact h
      rw [len_putF_in f v r u h]
theorem map_fare : ∀ f : List Nat, (f.map fun x => ({ fare := x, weights := [1] } : Class)).map (·.fare) = f
  | [] => rfl
  | a :: f => by
    rw [List.map_cons, List.map_cons, map_fare f]
section
variable {P : Program} {w : World} {K : PySem.W.Frag} {mg : Str → Option Value} {base : Heap} {CW CC CP : Addr}
def CNew (st : State) (ns : List Nat) (rows : List (List Nat)) (c : Vbahal.Call) : Prop := ∃ n f, ns = [n] ∧ rows = [f] ∧ c = .new n f
theorem ok_new (F : FnIn K mg "new" s_new ["plan", "numbers", "rows"]) (T : Txt K mg CW CC CP) : FnDo P w K mg base 1 "new" s_new ["plan", "numbers", "rows"] (spMut CP CNew) := by
  refine F.doIt sc_new (fun vs H Q E h => ?_) (fun f cdv A outer s H vs Q E hr h => ?_)
  · obtain ⟨p, nu, ro, foot, as, st, ns, rows, c, rfl, _⟩ := h
    rfl
  · obtain ⟨p, nu, ro, foot, as, st, ns, rows, c, rfl, hp, ok, hnu, hro, hal, hat, hnf, ⟨n, f, rfl, hrows, rfl⟩, hk, q⟩ := h
    refine ⟨_, (pss_cons (ps_set (i := 3) sc_new.nd rfl (by first | exact Or.inl rfl | exact Or.inr rfl) (pe_ix (ix_listK K rfl) (pv 2) pe_int (fun _ _ => rfl))) (pss_cons (ps_for PassesOwn.never rfl (pi_zipK K rfl rfl T.no_zip (pa_cons (pv 3) (pa_cons (pe_slice (sl_listK K rfl) (pv 3) (po_some pe_int) po_none) pa_nil))) (pg_tupK K (n := 2) rfl rfl (pgs_cons (pg_name (i := 4) sc_new.nd rfl (by first | exact Or.inl rfl | exact Or.inr rfl)) (pgs_cons (pg_name (i := 5) sc_new.nd rfl (by first | exact Or.inl rfl | exact Or.inr rfl)) pgs_nil))) (pss_one (ps_if (pt_cmpR op_ge (pv 5) (pv 4) (nomark _)) (pss_one (ps_ret (pe_lst (pa_cons (pe_un un_neg pe_int) pa_nil)))) pss_nil))) (pss_cons (ps_fld (pv 0) (pe_ix (ix_listK K rfl) (pv 1) pe_int (fun _ _ => rfl)) rfl) (pss_cons (ps_fld (pv 0) (pv 3) rfl) (pss_cons (ps_fld (pv 0) (pe_lc rfl sc_new.nd (pi_listK K rfl (pv 3)) (blkOk_by (own := [("fare", 6)]) rfl) (fun _ _ _ _ _ => (pg_name (i := 6) sc_new.nd rfl (by first | exact Or.inl rfl | exact Or.inr rfl))) (fun _ _ _ _ _ => pts_nil) (fun _ _ _ _ _ => (pe_lst (pa_cons pe_int pa_nil)))) rfl) (pss_cons (ps_fld (pv 0) (pe_lst pa_nil) rfl) (pss_one (ps_ret (pe_lst (pa_cons pe_int pa_nil)))))))))), ?_⟩
    obtain ⟨r, rfl, hrw⟩ := one_row hal hat hrows
    obtain ⟨pa, pas, foot0, rfl, hp0, hper, hpa1, hpa2⟩ := id hp.ex
    obtain ⟨dx, fs, fa, wa, was, rfl, h1, h2, h3, h4, h5, hq, h6, h7, h8, h9, h10⟩ := id hp0.ex
    have hk1 : f.length ≤ 8 := hk.2.2.1
    have hrf := hnf r (by simp)
    refine ⟨_, rfl, ro, _, _, V.ref r, rfl, rfl, SqL.of hro, atI_nat (j := 0) rfl, ?_⟩
    refine ⟨_, rfl, _, rfl, _, rfl, r, _, rfl, SqL.of hrw, fun f1 hf1 => ?_⟩
    have s1 : Same H (upd H f1 (.lst (cutV (NL f) (some 1) none))) := Same.upd_new hf1
    have ef1 : cutV (NL f) (some 1) none = NL (f.drop 1) := by
      rw [← NL_drop]
      exact cut_from (n := 1)
    refine ⟨r, f1, NL f, NL (f.drop 1), rfl, SqL.of (s1 _ _ hrw), SqL.of (by rw [upd_same, ef1]), for_zip (K := K) (a := r) (b := f1) (xs := NL f) (ys := NL (f.drop 1))
      (fun i σ H' => ∃ v1 v2 : Option V, σ = [some (.ref p), some (.ref nu), some (.ref ro), some (.ref r), v1, v2, none] ∧ Same (upd H f1 (.lst (cutV (NL f) (some 1) none))) H' ∧ ∀ (j a b : Nat), j < i → f[j]? = some a → f[j + 1]? = some b → b < a)
      ⟨none, none, rfl, Same.refl _, fun j a b h => by omega⟩ (fun i σ H' _ ⟨_, _, _, s5, _⟩ => ⟨SqL.of (s5 _ _ (s1 _ _ hrw)), SqL.of (by rw [s5 _ _ upd_same, ef1])⟩) ?_ ?_⟩
    · rintro i x y Tt σ H' hx hy hT ⟨v1, v2, rfl, s5, hin⟩
      obtain ⟨a, ha, rfl⟩ := NL_get hx
      obtain ⟨b, hb, rfl⟩ := NL_get hy
      rw [List.getElem?_drop, Nat.add_comm] at hb
      have s6 : Same H (upd H' Tt (.tup [nv a, nv b])) := (s1.trans s5).trans (Same.upd_new hT)
      refine ⟨Tt, _, rfl, .inl (.inl upd_same), rfl, _, _, rfl, _, _, rfl, rfl, ?_⟩
      refine ⟨_, rfl, _, rfl, _, _, rfl, rfl, _, rfl, ?_⟩
      refine ite2 (fun hc => ?_) (fun hc => ?_)
      · have hc : ¬ b < a := by
          have := of_decide_eq_true hc
          omega
        have hstep : Vbahal.step st (.new n f) = (st, [-5]) := by
          show (if Vbahal.falling f = false then (st, [-5]) else _) = _
          rw [if_pos (falling_false f i a b ha hb hc)]
        rw [hstep] at q
        refine ⟨_, rfl, (by show 1 ≤ sizeLine; decide), fun l hl => ?_⟩
        have s7 := s6.trans (Same.upd_new (o := .lst [V.int (-5)]) hl)
        exact q _ l _ (hp.same s7) (fun b o e _ => s7 b o e) (fun b hb => .inl hb) (s6.free hl) upd_same (hp.fresh (s6.free hl))
      · have hc : b < a := by
          have : ¬ (a : Int) ≤ (b : Int) := fun h => hc (decide_eq_true h)
          omega
        refine ⟨some (nv a), some (nv b), rfl, s5.trans (Same.upd_new hT), fun j a' b' hj e1 e2 => ?_⟩
        by_cases hji : j = i
        · subst hji
          rw [ha] at e1
          rw [hb] at e2
          cases e1
          cases e2
          exact hc
        · exact hin j a' b' (by omega) e1 e2
    · rintro σ H1 ⟨v1, v2, rfl, s5, hin⟩
      have hfall : Vbahal.falling f = true := falling_true f fun j a b e1 e2 => hin j a b (by
        have := (List.getElem?_eq_some_iff.mp e2).1
        rw [NL_len, NL_len, List.length_drop]
        omega) e1 e2
      have hstep : Vbahal.step st (.new n f) = ({ seats := n, classes := f.map fun x => { fare := x, weights := [1] }, periods := [] }, [0]) := by
        show (if Vbahal.falling f = false then (st, [-5]) else _) = _
        rw [hfall]
        rfl
      rw [hstep] at q
      have s15 := s1.trans s5
      have nrp : r ≠ p := fun e => hrf (by simp [e])
      refine ⟨_, rfl, nu, _, _, _, rfl, rfl, SqL.of (s15 _ _ hnu), NL_at (l := [n]) (i := 0) rfl, _, rfl, p, CP, dx, fs, rfl, s15 _ _ h1, T.cP, T.p_seats, (by omega), ?_⟩
      refine ⟨_, rfl, _, rfl, p, CP, dx, _, rfl, upd_same, T.cP, T.p_fares, (by rw [len_putF_in _ _ _ _ h3]; omega), ?_⟩
      have l1 : (putF "fares" (V.ref r) (putF "seats" (nv n) fs)).lookup ("weights" : Str) = some (V.ref wa) := by
        rw [lookup_putF, if_neg (by decide +kernel), lookup_putF, if_neg (by decide +kernel)]
        exact h5
      have l2 : (putF "seats" (nv n) fs).lookup ("fares" : Str) = some (V.ref fa) := by
        rw [lookup_putF, if_neg (by decide +kernel)]
        exact h4
      have len2 : (putF "fares" (V.ref r) (putF "seats" (nv n) fs)).length ≤ 10 := by rw [len_putF_in _ _ _ _ l2, len_putF_in _ _ _ _ h3]; exact h2
      generalize hH2 : upd (upd H1 p (.ins CP dx (putF "seats" (nv n) fs))) p (.ins CP dx (putF "fares" (V.ref r) (putF "seats" (nv n) fs))) = H2
      have k2 : ∀ b o, H b = some o → b ≠ p → H2 b = some o := fun b o e hb => by
        rw [← hH2, upd_ne hb, upd_ne hb]
        exact s15 _ _ e
      have hp2 : H2 p = some (.ins CP dx (putF "fares" (V.ref r) (putF "seats" (nv n) fs))) := by rw [← hH2, upd_same]
      have hr2 : H2 r = some (.lst (NL f)) := k2 _ _ hrw nrp
      have nH2 : ∀ b, H2 b = none → H b = none := fun b hb => by
        cases e : H b with
        | none => rfl
        | some o =>
          by_cases hbp : b = p
          · rw [hbp, hp2] at hb
            cases hb
          · rw [k2 b o e hbp] at hb
            cases hb
      refine ⟨_, rfl, r, rfl, ⟨_, SqL.of hr2⟩, ?_⟩
      intro D hD
      refine lc_list (K := K) (a := r) (xs := NL f) (fun j Hj => Same H2 Hj ∧ ∃ as : List Addr, Hj D = some (.lst (as.map V.ref)) ∧ as.length = j ∧ as.Nodup ∧ ∀ a ∈ as, Hj a = some (.lst [V.int 1]) ∧ H2 a = none ∧ a ≠ D)
        ⟨Same.upd_new hD, [], upd_same, rfl, List.nodup_nil, fun a h => by cases h⟩ (fun j Hj _ ⟨s8, _⟩ => SqL.of (s8 _ _ hr2)) ?_ ?_
      · rintro j x Hj hx ⟨s8, as, hDj, hasl, hnd, has⟩
        have hj : j < f.length := by
          have := (List.getElem?_eq_some_iff.mp hx).1
          rw [NL_len] at this
          exact this
        refine ⟨rfl, tYes_i ?_⟩
        refine ⟨(by show 1 ≤ sizeLine; decide), fun l hl => ?_⟩
        have hlD : l ≠ D := fun e => by rw [e, hDj] at hl; cases hl
        have hl2 : H2 l = none := s8.free hl
        have hDl : upd Hj l (.lst [V.int 1]) D = some (.lst (as.map V.ref)) := by rw [upd_ne (fun e => hlD e.symm)]; exact hDj
        have hnl : l ∉ as := fun m => by rw [(has l m).1] at hl; cases hl
        refine ⟨_, hDl, by rw [List.length_map]; show as.length < 16777216; omega, fun b o e => ?_, as ++ [l], ?_, ?_, ?_, ?_⟩
        · rw [upd_ne (ne_of_none e hD), upd_ne (ne_of_none e hl2)]
          exact s8 _ _ e
        · rw [upd_same, List.map_append]
          rfl
        · rw [List.length_append, hasl]
          rfl
        · exact nd_snoc hnd hnl
        · intro a ha
          rcases List.mem_append.mp ha with e | e
          · obtain ⟨g1, g2, g3⟩ := has a e
            refine ⟨?_, g2, g3⟩
            rw [upd_ne g3, upd_ne (fun q => hnl (by rw [← q]; exact e))]
            exact g1
          · have e : a = l := by simpa using e
            subst e
            refine ⟨?_, hl2, hlD⟩
            rw [upd_ne hlD, upd_same]
      · rintro Hj ⟨s8, as, hDj, hasl, hnd, has⟩
        rw [NL_len] at hasl
        have hDH : H D = none := nH2 D hD
        refine ⟨_, rfl, p, CP, dx, _, rfl, s8 _ _ hp2, T.cP, T.p_weights, by omega, ?_⟩
        refine ⟨Nat.zero_le _, fun pn hpn => ?_⟩
        have npp : pn ≠ p := fun e => by rw [e, upd_same] at hpn; cases hpn
        have hpj : Hj pn = none := by rw [upd_ne npp] at hpn; exact hpn
        have lG : (putF "weights" (V.ref D) (putF "fares" (V.ref r) (putF "seats" (nv n) fs))).lookup ("periods" : Str) = some (V.ref pa) := by
          rw [lookup_putF, if_neg (by decide +kernel), lookup_putF, if_neg (by decide +kernel), lookup_putF, if_neg (by decide +kernel)]
          exact hq
        have lenG : (putF "weights" (V.ref D) (putF "fares" (V.ref r) (putF "seats" (nv n) fs))).length ≤ 10 := by rw [len_putF_in _ _ _ _ l1]; exact len2
        refine ⟨_, rfl, p, CP, dx, _, rfl, (by rw [upd_ne (fun e => npp e.symm)]; exact upd_same), T.cP, T.p_periods, (by omega), ?_⟩
        refine ⟨(by show 1 ≤ sizeLine; decide), fun l hl => ?_⟩
        have npD : D ≠ p := fun e => by rw [e, hp2] at hD; cases hD
        have hlp : l ≠ p := fun e => by rw [e, upd_same] at hl; cases hl
        have hl0 := hl
        rw [upd_ne hlp] at hl0
        have hln : l ≠ pn := fun e => by rw [e, upd_same] at hl0; cases hl0
        have hl1 : Hj l = none := by rw [upd_ne hln, upd_ne hlp] at hl0; exact hl0
        have hl2 : H2 l = none := s8.free hl1
        have hlD : l ≠ D := fun e => by rw [e, hDj] at hl1; cases hl1
        have k9 : ∀ b o, Hj b = some o → b ≠ p → upd (upd (upd (upd Hj p (.ins CP dx (putF "weights" (V.ref D) (putF "fares" (V.ref r) (putF "seats" (nv n) fs))))) pn (.lst [])) p (.ins CP dx (putF "periods" (V.ref pn) (putF "weights" (V.ref D) (putF "fares" (V.ref r) (putF "seats" (nv n) fs)))))) l (.lst [V.int 0]) b = some o := fun b o e hb => by
          rw [upd_ne (ne_of_none e hl1), upd_ne hb, upd_ne (ne_of_none e hpj), upd_ne hb]
          exact e
        refine q _ l ((p :: r :: D :: as) ++ [pn]) ⟨pn, [], p :: r :: D :: as, rfl, ⟨dx, putF "periods" (V.ref pn) (putF "weights" (V.ref D) (putF "fares" (V.ref r) (putF "seats" (nv n) fs))), r, D, as, rfl, ?_, ?_, ?_, ?_, ?_, ?_, ?_, ?_, ?_, ?_, ?_⟩, ⟨?_, rfl, fun j a r e => by simp at e⟩, by simp, ?_⟩ (fun b o e hb => k9 b o (s8 _ _ (k2 b o e fun q => hb (by simp [q]))) fun q => hb (by simp [q])) (fun b hb => ?_) (nH2 l hl2) upd_same ?_
        · rw [upd_ne (fun e => hlp e.symm), upd_same]
        · rw [len_putF_in _ _ _ _ lG]
          exact lenG
        · rw [lookup_putF, if_neg (by decide +kernel), lookup_putF, if_neg (by decide +kernel), lookup_putF, if_neg (by decide +kernel), lookup_putF, if_pos rfl]
        · rw [lookup_putF, if_neg (by decide +kernel), lookup_putF, if_neg (by decide +kernel), lookup_putF, if_pos rfl]
        · rw [lookup_putF, if_neg (by decide +kernel), lookup_putF, if_pos rfl]
        · rw [lookup_putF, if_pos rfl]
        · rw [show (({ seats := n, classes := f.map fun x => { fare := x, weights := [1] }, periods := [] }, ([0] : List Int)) : State × List Int).1.classes.map (·.fare) = f from map_fare f]
          exact k9 _ _ (s8 _ _ hr2) nrp
        · exact k9 _ _ hDj npD
        · show as.length = (f.map _).length
          rw [List.length_map]
          exact hasl
        · intro j a c e1 e2
          have e2 : (f.map fun x => ({ fare := x, weights := [1] } : Class))[j]? = some c := e2
          rw [List.getElem?_map] at e2
          cases ef : f[j]? with
          | none => rw [ef] at e2; cases e2
          | some y =>
            rw [ef] at e2
            cases e2
            obtain ⟨g1, g2, g3⟩ := has a (List.mem_of_getElem? e1)
            exact k9 _ _ g1 fun q => by rw [q, hp2] at g2; cases g2
        · refine List.nodup_cons.mpr ⟨fun m => ?_, List.nodup_cons.mpr ⟨fun m => (has D m).2.2 rfl, hnd⟩⟩
          rcases List.mem_cons.mp m with e | e
          · rw [← e, hr2] at hD
            cases hD
          · have := (has r e).2.1
            rw [hr2] at this
            cases this
        · rw [upd_ne (fun e => hln e.symm), upd_ne npp, upd_same]
          rfl
        · intro b hb m
          have e : b = pn := by simpa using hb
          subst e
          rcases List.mem_cons.mp m with e | m
          · exact npp e
          rcases List.mem_cons.mp m with e | m
          · rw [e, s8 _ _ hr2] at hpj
            cases hpj
          rcases List.mem_cons.mp m with e | m
          · rw [e, hDj] at hpj
            cases hpj
          · rw [(has b m).1] at hpj
            cases hpj
        · rcases List.mem_append.mp hb with hb | hb
          · rcases List.mem_cons.mp hb with e | hb
            · exact .inl (by simp [e])
            rcases List.mem_cons.mp hb with e | hb
            · exact .inr (.inl (by simp [e]))
            rcases List.mem_cons.mp hb with e | hb
            · exact .inr (.inr (by rw [e]; exact hDH))
            · exact .inr (.inr (nH2 b (has b hb).2.1))
          · have e : b = pn := by simpa using hb
            exact .inr (.inr (by rw [e]; exact nH2 pn (s8.free hpj)))
        · intro hb
          rcases List.mem_append.mp hb with hb | hb
          · rcases List.mem_cons.mp hb with e | hb
            · exact hlp e
            rcases List.mem_cons.mp hb with e | hb
            · rw [e, hr2] at hl2
              cases hl2
            rcases List.mem_cons.mp hb with e | hb
            · exact hlD e
            · have := (has l hb).1
              rw [hl1] at this
              cases this
          · exact hln (by simpa using hb)
end
end Ks
namespace Ks
open PySem PySem.Spec PyProof.Rows L2
open Vbahal (Class State)
section
variable {P : Program} {w : World} {K : PySem.W.Frag} {mg : Str → Option Value} {base : Heap} {CW CC CP FA NA HA : Addr} {forms : List Form} {naming : List Nat}
def spInitP (CP : Addr) : Sp := fun vs H Q _ => ∃ (p dx : Addr), vs = [.ref p] ∧ H p = some (.ins CP dx []) ∧
  ∀ (H' : Hp) (foot : List Addr), PlanAt CP H' p foot Vbahal.start → (∀ b o, H b = some o → b ≠ p → H' b = some o) → (∀ b ∈ foot, b = p ∨ H b = none) → Q .non H'
theorem ok_init_Plan (F : ClIn K mg "Plan" "Plan.__init__" s_init_Plan ["self"] CP) (T : Txt K mg CW CC CP) : ClDo P w K mg base 1 "Plan" ["self"] CP (spInitP CP) := by
  refine F.doIt sc_init_Plan (fun vs H Q E h => ?_) (fun f cdv A outer s H vs Q E hr h => ?_)
  · obtain ⟨p, dx, rfl, _⟩ := h
    rfl
  · obtain ⟨p, dx, rfl, hp, k⟩ := h
    refine ⟨_, (pss_cons (ps_fld (pv 0) pe_int rfl) (pss_cons (ps_fld (pv 0) (pe_lst pa_nil) rfl) (pss_cons (ps_fld (pv 0) (pe_lst pa_nil) rfl) (pss_one (ps_fld (pv 0) (pe_lst pa_nil) rfl))))), ?_⟩
    refine ⟨_, rfl, p, CP, dx, [], rfl, hp, T.cP, T.p_seats, (by show 0 < 1000; decide), ?_⟩
    refine ⟨Nat.zero_le _, fun fa hfa => ?_⟩
    have nfp : fa ≠ p := fun e => by rw [e, upd_same] at hfa; cases hfa
    refine ⟨_, rfl, p, CP, dx, _, rfl, (by rw [upd_ne (fun e => nfp e.symm)]; exact upd_same), T.cP, T.p_fares, (by show 1 < 1000; decide), ?_⟩
    refine ⟨Nat.zero_le _, fun wa hwa => ?_⟩
    have nwp : wa ≠ p := fun e => by rw [e, upd_same] at hwa; cases hwa
    have nwf : wa ≠ fa := fun e => by rw [e, upd_ne nfp, upd_same] at hwa; cases hwa
    refine ⟨_, rfl, p, CP, dx, _, rfl, (by rw [upd_ne (fun e => nwp e.symm)]; exact upd_same), T.cP, T.p_weights, Nat.lt_of_le_of_lt (len_putF _ _ _) (by show 2 < 1000; decide), ?_⟩
    refine ⟨Nat.zero_le _, fun pn hpn => ?_⟩
    have npp : pn ≠ p := fun e => by rw [e, upd_same] at hpn; cases hpn
    rw [upd_ne npp] at hpn
    have npw : pn ≠ wa := fun e => by rw [e, upd_same] at hpn; cases hpn
    rw [upd_ne npw, upd_ne npp] at hpn
    have npf : pn ≠ fa := fun e => by rw [e, upd_same] at hpn; cases hpn
    have hpn' : H pn = none := by rw [upd_ne npf, upd_ne npp] at hpn; exact hpn
    refine ⟨_, rfl, p, CP, dx, _, rfl, (by rw [upd_ne (fun e => npp e.symm)]; exact upd_same), T.cP, T.p_periods, Nat.lt_of_le_of_lt (len_putF _ _ _) (Nat.lt_of_le_of_lt (Nat.add_le_add_right (len_putF _ _ _) 1) (by show 3 < 1000; decide)), ?_⟩
    have hfa' : H fa = none := by rw [upd_ne nfp] at hfa; exact hfa
    have hwa' : H wa = none := by rw [upd_ne nwp, upd_ne nwf, upd_ne nwp] at hwa; exact hwa
    refine k _ ([p, fa, wa] ++ [pn]) ⟨pn, [], [p, fa, wa], rfl, ⟨dx, putF "periods" (V.ref pn) (putF "weights" (V.ref wa) (putF "fares" (V.ref fa) (putF "seats" (V.int 0) []))), fa, wa, [], rfl, upd_same, ?_, ?_, ?_, ?_, ?_, ?_, ?_, rfl, (fun j a c e => by simp at e), ?_⟩, ⟨?_, rfl, fun j a r e => by simp at e⟩, by simp, ?_⟩ (fun b o e hb => ?_) (fun b hb => ?_)
    · exact Nat.le_trans (len_putF _ _ _) (Nat.le_trans (Nat.add_le_add_right (Nat.le_trans (len_putF _ _ _) (Nat.add_le_add_right (len_putF _ _ _) 1)) 1) (by show 4 ≤ 10; decide))
    · rw [lookup_putF, if_neg (by decide +kernel), lookup_putF, if_neg (by decide +kernel), lookup_putF, if_neg (by decide +kernel), lookup_putF, if_pos rfl]
      rfl
    · rw [lookup_putF, if_neg (by decide +kernel), lookup_putF, if_neg (by decide +kernel), lookup_putF, if_pos rfl]
    · rw [lookup_putF, if_neg (by decide +kernel), lookup_putF, if_pos rfl]
    · rw [lookup_putF, if_pos rfl]
    · rw [upd_ne nfp, upd_ne (fun e => npf e.symm), upd_ne nfp, upd_ne (fun e => nwf e.symm), upd_ne nfp, upd_same]
      rfl
    · rw [upd_ne nwp, upd_ne (fun e => npw e.symm), upd_ne nwp, upd_same]
      rfl
    · exact List.nodup_cons.mpr ⟨by intro m; simp at m; exact nwf m.symm, List.nodup_cons.mpr ⟨by simp, List.nodup_nil⟩⟩
    · rw [upd_ne npp, upd_same]
      rfl
    · intro b hb m
      have e : b = pn := by simpa using hb
      subst e
      simp at m
      rcases m with e | e | e
      · exact npp e
      · exact npf e
      · exact npw e
    · rw [upd_ne hb, upd_ne (ne_of_none e hpn'), upd_ne hb, upd_ne (ne_of_none e hwa'), upd_ne hb, upd_ne (ne_of_none e hfa'), upd_ne hb]
      exact e
    · simp at hb
      rcases hb with e | e | e | e
      · exact .inl e
      · exact .inr (by rw [e]; exact hfa')
      · exact .inr (by rw [e]; exact hwa')
      · exact .inr (by rw [e]; exact hpn')
def refN (naming : List Nat) (st : State) (pl : Nat) (f : Form) (ns : List Int) (rows : List (List Int)) : Int :=
  if (inArgs ns f.1 && inRows rows f.2) = true then (if pl = 0 then 0 else if st.classes.length = 0 then -3 else if pl ∈ naming ∧ (st.classes.length : Int) ≤ ns.getD 0 0 then -4 else 0) else -2
def spRefused (CC CP : Addr) (forms : List Form) (naming : List Nat) : Sp := fun vs H Q _ => ∃ (p c nu ro : Addr) (foot as : List Addr) (st : State) (pl en : Nat) (f : Form) (ns : List Int) (rows : List (List Int)), vs = [.ref p, .ref c] ∧ PlanAt CP H p foot st ∧ CAt CC H c pl nu ro en ∧ H nu = some (.lst (IL ns)) ∧ RowsI H ro as rows ∧ forms[pl]? = some f ∧
  ns.length = f.1.length ∧ rows.length = f.2.length ∧ (∀ r ∈ rows, r.length ≤ 1000) ∧ (pl ∈ naming → 0 < ns.length) ∧ ∀ H' : Hp, Same H H' → Q (.int (refN naming st pl f ns rows)) H'
theorem inV_nats (x : Nat) : ∀ l : List Nat, inV (.int (x : Int)) (NL l) = decide (x ∈ l)
  | [] => by simp [inV, NL]
  | a :: l => by
    have ih := inV_nats x l
    show (eqV (nv a) (.int (x : Int)) || inV (.int (x : Int)) (NL l)) = _
    rw [ih]
    have e : eqV (nv a) (.int (x : Int)) = decide (x = a) := by
      by_cases h : x = a
      · subst h
        simp [eqV]
      · have h2 : ¬ (a : Int) = (x : Int) := by omega
        simp [eqV, h, h2]
    rw [e]
    by_cases h1 : x = a <;> by_cases h2 : x ∈ l <;> simp [h1, h2]
theorem ok_refused (F : FnIn K mg "refused" s_refused ["plan", "call"]) (T : Txt K mg CW CC CP) (G_in_ranges : FnDo P w K mg base 1 "in_ranges" s_in_ranges ["call"] (spInRanges CC forms)) (g_NEW : ∃ t, mg "NEW" = some (.int 0 t)) (g_NAMING_A_CLASS : mg "NAMING_A_CLASS" = some (.ref NA))
    (hN : KT K NA (NL naming)) : FnDo P w K mg base 2 "refused" s_refused ["plan", "call"] (spRefused CC CP forms naming) := by
  refine F.doIt sc_refused (fun vs H Q E h => ?_) (fun f cdv A outer s H vs Q E hr h => ?_)
  · obtain ⟨p, c, nu, ro, foot, as, st, pl, en, f, ns, rows, rfl, _⟩ := h
    rfl
  · obtain ⟨p, c, nu, ro, foot, as, st, pl, en, fm, ns, rows, rfl, hp, hC, hnu, hro, hfm, hl1, hl2, hrl, hnm, q⟩ := h
    refine ⟨_, (pss_cons (ps_if (pt_not (pt_val (pe_callO G_in_ranges (hr.mono (by decide)) rfl (pa_cons (pv 1) pa_nil)))) (pss_one (ps_ret (pe_un un_neg pe_int))) pss_nil) (pss_cons (ps_if (pt_cmpR op_eq (pe_fldK K rfl (pv 1) rfl) (pe_globI rfl g_NEW) (nomark _)) (pss_one (ps_ret pe_int)) pss_nil) (pss_cons (ps_if (pt_cmpR op_eq (pe_callB (call_lenK K rfl) (by rfl) T.no_len PySem.boot_len (pa_cons (pe_fldK K rfl (pv 0) rfl) pa_nil)) pe_int (nomark _)) (pss_one (ps_ret (pe_un un_neg pe_int))) pss_nil) (pss_cons (ps_if (PW.pt (pw_and (pt_cmpR (op_inK K rfl) (pe_fldK K rfl (pv 1) rfl) (pe_globR rfl g_NAMING_A_CLASS) (by rfl)) (pw_and1 (pt_cmpR op_ge (pe_ix (ix_listK K rfl) (pe_fldK K rfl (pv 1) rfl) pe_int (fun _ _ => rfl)) (pe_callB (call_lenK K rfl) (by rfl) T.no_len PySem.boot_len (pa_cons (pe_fldK K rfl (pv 0) rfl) pa_nil)) (nomark _))))) (pss_one (ps_ret (pe_un un_neg pe_int))) pss_nil) (pss_one (ps_ret pe_int)))))), ?_⟩
    obtain ⟨pa, pas, foot0, rfl, hp0, _⟩ := id hp.ex
    obtain ⟨dx, fs, fa, wa, was, rfl, h1, h2, h3, h4, h5, hq, h6, h7, h8, h9, h10⟩ := id hp0.ex
    refine ⟨_, rfl, c, nu, ro, as, pl, en, fm, ns, rows, rfl, hC, hnu, hro, hfm, hl1, hl2, hrl, fun H1 s1 => ⟨_, rfl, ?_⟩⟩
    have q1 := q H1 s1
    unfold refN at q1
    obtain ⟨cx, cs, c1, c2, c3, c4, c5⟩ := hC.same s1
    refine ite2 (fun hc => ?_) (fun hc => ?_)
    · have hc : ¬ (inArgs ns fm.1 && inRows rows fm.2) = true := by
        intro h
        rw [h] at hc
        cases hc
      rw [if_neg hc] at q1
      exact ⟨_, rfl, q1⟩
    · have hc : (inArgs ns fm.1 && inRows rows fm.2) = true := by
        cases h : (inArgs ns fm.1 && inRows rows fm.2) with
        | true => rfl
        | false => rw [h] at hc; exact absurd rfl hc
      rw [if_pos hc] at q1
      refine ⟨_, rfl, c, CC, cx, cs, _, rfl, c1, T.cC, T.c_place, c2, rfl, _, rfl, ?_⟩
      rw [eq0]
      refine ite2 (fun hz => ?_) (fun hz => ?_)
      · rw [if_pos (of_decide_eq_true hz)] at q1
        exact q1
      · rw [if_neg (fun h => hz (decide_eq_true h))] at q1
        refine ⟨_, rfl, p, CP, dx, fs, _, rfl, s1 _ _ h1, T.cP, T.p_fares, h4, fa, _, rfl, .inl (SqL.of (s1 _ _ h6)), rfl, _, rfl, ?_⟩
        rw [NL_len, List.length_map, eq0]
        refine ite2 (fun hy => ?_) (fun hy => ?_)
        · rw [if_pos (of_decide_eq_true hy)] at q1
          exact ⟨_, rfl, q1⟩
        · rw [if_neg (fun h => hy (decide_eq_true h))] at q1
          dsimp only [tNext]
          refine seqIf_of (decide (pl ∈ naming ∧ (st.classes.length : Int) ≤ ns.getD 0 0)) (fun Qt hq => ?_) ?_
          · refine ⟨_, rfl, c, CC, cx, cs, _, rfl, c1, T.cC, T.c_place, c2, NA, _, rfl, .inr hN.sq, rfl, ?_, _, rfl, ?_⟩
            · exact List.all_eq_true.mpr fun v hv => by
                obtain ⟨n, _, rfl⟩ := List.mem_map.mp hv
                rfl
            show (if inV (V.int (pl : Int)) (NL naming) = true then _ else _)
            rw [inV_nats]
            refine ite2 (fun hx => ?_) (fun hx => ?_)
            · have hx := of_decide_eq_true hx
              have hnl := hnm hx
              have hn0 : ns[0]? = some (ns.getD 0 0) := by
                rw [List.getD_eq_getElem?_getD, List.getElem?_eq_getElem hnl]
                rfl
              refine ⟨_, rfl, c, CC, cx, cs, _, rfl, c1, T.cC, T.c_numbers, c3, nu, _, _, _, rfl, rfl, SqL.of (s1 _ _ hnu), IL_at (i := 0) hn0, _, rfl, p, CP, dx, fs, _, rfl, s1 _ _ h1, T.cP, T.p_fares, h4, fa, _, rfl, .inl (SqL.of (s1 _ _ h6)), _, _, rfl, rfl, _, rfl, ?_⟩
              rw [NL_len, List.length_map]
              have e : decide (pl ∈ naming ∧ (st.classes.length : Int) ≤ ns.getD 0 0) = decide (((st.classes.length : Nat) : Int) ≤ ns.getD 0 0) := decide_eq_decide.mpr ⟨fun h => h.2, fun h => ⟨hx, h⟩⟩
              rw [← e]
              exact hq
            · have hx : ¬ pl ∈ naming := fun h => hx (decide_eq_true h)
              have e : decide (pl ∈ naming ∧ (st.classes.length : Int) ≤ ns.getD 0 0) = false := decide_eq_false fun h => hx h.1
              rw [e] at hq
              exact hq
          · refine ite2 (fun hx => ?_) (fun hx => ?_)
            · rw [if_pos (of_decide_eq_true hx)] at q1
              exact ⟨_, rfl, q1⟩
            · rw [if_neg (fun h => hx (decide_eq_true h))] at q1
              exact q1
end
end Ks
namespace Ks
open PySem PySem.Spec PyProof.Rows L2
open Vbahal (Class State)
def NAMING : List Nat := [1, 2, 3, 4, 6, 11, 12]
def CPl (naming : List Nat) (pl : Nat) (st : State) (ns : List Nat) (rows : List (List Nat)) (c : Vbahal.Call) : Prop :=
  c = callOf pl ns rows ∧ (∃ f, FORMS19[pl]? = some f ∧ ns.length = f.1.length ∧ rows.length = f.2.length) ∧ (pl ≠ 0 → 0 < st.classes.length) ∧ (pl ∈ naming → ns.getD 0 0 < st.classes.length)
section
variable {P : Program} {w : World} {K : PySem.W.Frag} {mg : Str → Option Value} {base : Heap} {CW CC CP FA NA HA : Addr} {naming : List Nat} {hs : List Addr}
def HandlerOk (P : Program) (w : World) (K : PySem.W.Frag) (mg : Str → Option Value) (base : Heap) (CP : Addr) (naming : List Nat) (pl : Nat) (h : Addr) : Prop :=
  ∃ (fd : FuncData) (k : Nat), FnOk P w K mg base CX0 k h fd ["plan", "numbers", "rows"] (spMut CP (CPl naming pl)) ∧ k ≤ 19 ∧ PySem.W.keepIn K (.ref h) = true ∧ Binds K fd ["plan", "numbers", "rows"] []
theorem FnDo.handler {k : Nat} {x : Str} {st : Stmt} {sp : Sp} {pl : Nat} (F : FnDo P w K mg base k x st ["plan", "numbers", "rows"] sp) (hk : k ≤ 19) (h : ∀ vs H Q E, spMut CP (CPl naming pl) vs H Q E → sp vs H Q E) : ∃ a, mg x = some (.ref a) ∧ HandlerOk P w K mg base CP naming pl a := by
  obtain ⟨f, fd, F1, m, b, G⟩ := F
  exact ⟨f, m, fd, k, G.imp h, hk, F1.kp, b⟩
def spAnswer (CC CP : Addr) : Sp := fun vs H Q _ => ∃ (p c nu ro : Addr) (foot as : List Addr) (st : State) (pl en : Nat) (f : Form) (ns : List Int) (rows : List (List Int)), vs = [.ref p, .ref c] ∧ PlanAt CP H p foot st ∧ StOk st ∧ CAt CC H c pl nu ro en ∧ H nu = some (.lst (IL ns)) ∧ RowsI H ro as rows ∧ (∀ a ∈ as, a ∉ foot) ∧ FORMS19[pl]? = some f ∧
  ns.length = f.1.length ∧ rows.length = f.2.length ∧ (∀ r ∈ rows, r.length ≤ 1000) ∧
  ∀ (H' : Hp) (l : Addr) (foot' : List Addr), PlanAt CP H' p foot' (Vbahal.stepRows st (((pl : Int) :: ns) :: rows)).1 → (∀ b o, H b = some o → b ∉ foot → H' b = some o) → (∀ b ∈ foot', b ∈ foot ∨ b ∈ as ∨ H b = none) → H l = none → H' l = some (.lst (IL (Vbahal.stepRows st (((pl : Int) :: ns) :: rows)).2)) → l ∉ foot' →
    StOk (Vbahal.stepRows st (((pl : Int) :: ns) :: rows)).1 → Q (.ref l) H'
theorem naming_len (pl : Nat) (f : Form) (hf : FORMS19[pl]? = some f) (h : pl ∈ NAMING) : 0 < f.1.length := by
  have key : ∀ n ∈ NAMING, ∀ f, FORMS19[n]? = some f → 0 < f.1.length := by
    intro n hn f hf
    have h2 : ∀ n ∈ NAMING, (match FORMS19[n]? with | some f => decide (0 < f.1.length) | none => true) = true := by decide +kernel
    have h3 := h2 n hn
    rw [hf] at h3
    exact of_decide_eq_true h3
  exact key pl h f hf
theorem step_no (st : State) (h : st.classes.length = 0) : ∀ pl ns rows, pl ≠ 0 → Vbahal.step st (callOf pl ns rows) = (st, [-3]) ∨ (∃ n f, callOf pl ns rows = .new n f) := by
  intro pl ns rows hpl
  have e : st.classes.isEmpty = true := by
    cases q : st.classes with
    | nil => rfl
    | cons a l => rw [q] at h; cases h
  have hh : ∀ i t, Vbahal.has st i t = (st, [-3]) := fun i t => by
    unfold Vbahal.has
    rw [if_pos e]
  cases hc : callOf pl ns rows with
  | new n f => exact .inr ⟨n, f, rfl⟩
  | _ => exact .inl (hh _ _)
theorem callOf_new {ns : List Nat} {rows : List (List Nat)} {n : Nat} {f : List Nat} : ∀ {pl : Nat}, callOf pl ns rows = .new n f → pl = 0
  | 0, _ => rfl
  | 1, h => by cases h
  | 2, h => by cases h
  | 3, h => by cases h
  | 4, h => by cases h
  | 5, h => by cases h
  | 6, h => by cases h
  | 7, h => by cases h
  | 8, h => by cases h
  | 9, h => by cases h
  | 10, h => by cases h
  | 11, h => by cases h
  | 12, h => by cases h
  | 13, h => by cases h
  | 14, h => by cases h
  | 15, h => by cases h
  | 16, h => by cases h
  | 17, h => by cases h
  | k + 18, h => by cases h
theorem has_4 {st : State} {i : Nat} {t : State × List Int} (h0 : ¬ st.classes.length = 0) (h : st.classes.length ≤ i) : Vbahal.has st i t = (st, [-4]) := by
  unfold Vbahal.has
  have e : st.classes.isEmpty = false := by
    cases q : st.classes with
    | nil => rw [q] at h0; exact absurd rfl h0
    | cons a l => rfl
  rw [e, if_neg Bool.false_ne_true, if_pos h]
theorem naming_step {st : State} {pl : Nat} {ns : List Int} {rows : List (List Int)} {f : Form} (hf : FORMS19[pl]? = some f) (h1 : ns.length = f.1.length) (h2 : rows.length = f.2.length) (hn : pl ∈ NAMING) (h0 : ¬ st.classes.length = 0) (h : (st.classes.length : Int) ≤ ns.getD 0 0) :
    Vbahal.step st (callOf pl (ints' ns) (rows.map ints')) = (st, [-4]) := by
  have hm : pl = 1 ∨ pl = 2 ∨ pl = 3 ∨ pl = 4 ∨ pl = 6 ∨ pl = 11 ∨ pl = 12 := by simpa [NAMING] using hn
  rcases hm with rfl | rfl | rfl | rfl | rfl | rfl | rfl
  · cases hf
    obtain ⟨a, rfl⟩ := len1 h1
    obtain ⟨r, rfl⟩ := len1 h2
    exact has_4 h0 (by have h : (st.classes.length : Int) ≤ a := h; show st.classes.length ≤ a.toNat; omega)
  · cases hf
    obtain ⟨a, b, rfl⟩ := len2 h1
    cases len0 h2
    exact has_4 h0 (by have h : (st.classes.length : Int) ≤ a := h; show st.classes.length ≤ a.toNat; omega)
  · cases hf
    obtain ⟨a, b, rfl⟩ := len2 h1
    cases len0 h2
    exact has_4 h0 (by have h : (st.classes.length : Int) ≤ a := h; show st.classes.length ≤ a.toNat; omega)
  · cases hf
    obtain ⟨a, b, rfl⟩ := len2 h1
    cases len0 h2
    exact has_4 h0 (by have h : (st.classes.length : Int) ≤ a := h; show st.classes.length ≤ a.toNat; omega)
  · cases hf
    obtain ⟨a, b, c, rfl⟩ := len3 h1
    cases len0 h2
    exact has_4 h0 (by have h : (st.classes.length : Int) ≤ a := h; show st.classes.length ≤ a.toNat; omega)
  · cases hf
    obtain ⟨a, b, rfl⟩ := len2 h1
    cases len0 h2
    exact has_4 h0 (by have h : (st.classes.length : Int) ≤ a := h; show st.classes.length ≤ a.toNat; omega)
  · cases hf
    obtain ⟨a, rfl⟩ := len1 h1
    cases len0 h2
    exact has_4 h0 (by have h : (st.classes.length : Int) ≤ a := h; show st.classes.length ≤ a.toNat; omega)
theorem ref_step {st : State} {pl : Nat} {ns : List Int} {rows : List (List Int)} {f : Form} (hf : FORMS19[pl]? = some f) (h1 : ns.length = f.1.length) (h2 : rows.length = f.2.length) :
    (refN NAMING st pl f ns rows ≠ 0 → Vbahal.stepRows st (((pl : Int) :: ns) :: rows) = (st, [refN NAMING st pl f ns rows])) ∧
    (refN NAMING st pl f ns rows = 0 → (inArgs ns f.1 && inRows rows f.2) = true ∧ Vbahal.stepRows st (((pl : Int) :: ns) :: rows) = Vbahal.step st (callOf pl (ints' ns) (rows.map ints')) ∧ (pl ≠ 0 → 0 < st.classes.length) ∧ (pl ∈ NAMING → (ns.getD 0 0) < (st.classes.length : Int))) := by
  have hread := read_eq pl ns rows f hf h1 h2
  unfold Vbahal.stepRows
  rw [hread]
  unfold refN
  by_cases hc : (inArgs ns f.1 && inRows rows f.2) = true
  · rw [if_pos hc, if_pos hc]
    dsimp only
    by_cases hz : pl = 0
    · rw [if_pos hz]
      refine ⟨fun h => absurd rfl h, fun _ => ⟨hc, rfl, fun h => absurd hz h, fun h => ?_⟩⟩
      rw [hz] at h
      exact absurd h (by decide)
    · rw [if_neg hz]
      by_cases h0 : st.classes.length = 0
      · rw [if_pos h0]
        refine ⟨fun _ => ?_, fun h => by cases h⟩
        rcases step_no st h0 pl (ints' ns) (rows.map ints') hz with e | ⟨n, g, e⟩
        · exact e
        · exact absurd (callOf_new e) hz
      · rw [if_neg h0]
        by_cases hn : pl ∈ NAMING ∧ (st.classes.length : Int) ≤ ns.getD 0 0
        · rw [if_pos hn]
          exact ⟨fun _ => naming_step hf h1 h2 hn.1 h0 hn.2, fun h => by cases h⟩
        · rw [if_neg hn]
          exact ⟨fun h => absurd rfl h, fun _ => ⟨hc, rfl, fun _ => by omega, fun h => by
            by_cases q : (st.classes.length : Int) ≤ ns.getD 0 0
            · exact absurd ⟨h, q⟩ hn
            · omega⟩⟩
  · rw [if_neg hc, if_neg hc]
    exact ⟨fun _ => rfl, fun h => by cases h⟩
theorem ne0 {z : Int} : (!decide (V.int z = V.int 0)) = decide (z ≠ 0) := by
  by_cases e : z = 0
  · rw [e]
    rfl
  · have : ¬ V.int z = V.int 0 := fun h => e (by injection h)
    simp [this, e]
theorem ok_answer (F : FnIn K mg "answer" s_answer ["plan", "call"]) (T : Txt K mg CW CC CP) (G_refused : FnDo P w K mg base 2 "refused" s_refused ["plan", "call"] (spRefused CC CP FORMS19 NAMING)) (g_HANDLERS : mg "HANDLERS" = some (.ref HA)) (hH : KT K HA (hs.map V.ref))
    (hO : ∀ (pl : Nat) (f : Form), FORMS19[pl]? = some f → ∃ h, hs[pl]? = some h ∧ HandlerOk P w K mg base CP NAMING pl h) : FnDo P w K mg base 20 "answer" s_answer ["plan", "call"] (spAnswer CC CP) := by
  refine F.doIt sc_answer (fun vs H Q E h => ?_) (fun f cdv A outer s H vs Q E hr h => ?_)
  · obtain ⟨p, c, nu, ro, foot, as, st, pl, en, f, ns, rows, rfl, _⟩ := h
    rfl
  · obtain ⟨p, c, nu, ro, foot, as, st, pl, en, fm, ns, rows, rfl, hp, ok, hC, hnu, hro, hnf, hfm, hl1, hl2, hrl, q⟩ := h
    refine ⟨_, (pss_cons (ps_set (i := 2) sc_answer.nd rfl (by first | exact Or.inl rfl | exact Or.inr rfl) (pe_callO G_refused (hr.mono (by decide)) rfl (pa_cons (pv 0) (pa_cons (pv 1) pa_nil)))) (pss_cons (ps_if (pt_cmpR op_ne (pv 2) pe_int (nomark _)) (pss_one (ps_ret (pe_lst (pa_cons (pv 2) pa_nil)))) pss_nil) (pss_cons (ps_set (i := 3) sc_answer.nd rfl (by first | exact Or.inl rfl | exact Or.inr rfl) (pe_ix (ix_tupK K rfl) (pe_globR rfl g_HANDLERS) (pe_fldK K rfl (pv 1) rfl) (fun _ _ => rfl))) (pss_one (ps_ret (pe_callV (i := 3) (pa_cons (pv 0) (pa_cons (pe_fldK K rfl (pv 1) rfl) (pa_cons (pe_fldK K rfl (pv 1) rfl) pa_nil))))))))), ?_⟩
    obtain ⟨r1, r2⟩ := ref_step (st := st) hfm hl1 hl2
    refine ⟨_, rfl, _, rfl, p, c, nu, ro, foot, as, st, pl, en, fm, ns, rows, rfl, hp, hC, hnu, hro, hfm, hl1, hl2, hrl, (fun h => by have := naming_len pl fm hfm h; omega), fun H1 s1 => ?_⟩
    refine ⟨_, rfl, rfl, _, rfl, ?_⟩
    rw [ne0]
    refine ite2 (fun hc => ?_) (fun hc => ?_)
    · have hc := of_decide_eq_true hc
      rw [r1 hc] at q
      refine ⟨_, rfl, (by show 1 ≤ sizeLine; decide), fun l hl => ?_⟩
      have s2 := s1.trans (Same.upd_new (o := .lst [V.int (refN NAMING st pl fm ns rows)]) hl)
      exact q _ l foot (hp.same s2) (fun b o e _ => s2 b o e) (fun b hb => .inl hb) (s1.free hl) upd_same (hp.fresh (s1.free hl)) ok
    · have hc : refN NAMING st pl fm ns rows = 0 := by
        by_cases e : refN NAMING st pl fm ns rows = 0
        · exact e
        · exact absurd (decide_eq_true e) hc
      obtain ⟨a1, a2, a3, a4⟩ := r2 hc
      rw [a2] at q
      obtain ⟨b1, b2, b3⟩ := range_ok pl ns rows fm hfm hl1 hl2 a1
      obtain ⟨h, hh, fd, k, G, hk, kp, bd⟩ := hO pl fm hfm
      obtain ⟨cx, cs, c1, c2, c3, c4, c5⟩ := hC.same s1
      refine ⟨_, rfl, c, CC, cx, cs, _, rfl, c1, T.cC, T.c_place, c2, HA, _, _, V.ref h, rfl, rfl, hH.sq, atI_nat (by rw [List.getElem?_map, hh]; rfl), ?_⟩
      refine ⟨h, fd, _, _, k, rfl, G, hr.mono hk, kp, bd, ?_⟩
      refine ⟨_, rfl, _, rfl, c, CC, cx, cs, _, rfl, c1, T.cC, T.c_numbers, c3, _, rfl, c, CC, cx, cs, _, rfl, c1, T.cC, T.c_rows, c4, ?_⟩
      obtain ⟨g1, g2, g3⟩ := hro.same s1
      refine ⟨p, nu, ro, foot, as, st, ints' ns, rows.map ints', _, rfl, hp.same s1, ok, ?_, g1, by rw [List.length_map]; exact g2, ?_, hnf, ⟨rfl, ⟨fm, hfm, by unfold ints'; rw [List.length_map]; exact hl1, by rw [List.length_map]; exact hl2⟩, a3, fun hn => ?_⟩, b1, fun H' l foot' e1 e2 e3 e4 e5 e6 => ?_⟩
      · rw [← IL_nat, b2]
        exact s1 _ _ hnu
      · intro j a r ea er
        rw [List.getElem?_map] at er
        cases ex : rows[j]? with
        | none => rw [ex] at er; cases er
        | some x =>
          rw [ex] at er
          cases er
          rw [← IL_nat, b3 x (List.mem_of_getElem? ex)]
          exact g3 j a x ea ex
      · have h5 := a4 hn
        have h6 := naming_len pl fm hfm hn
        unfold ints'
        have hnl : 0 < ns.length := by omega
        rw [List.getD_eq_getElem?_getD, List.getElem?_map, List.getElem?_eq_getElem hnl]
        rw [List.getD_eq_getElem?_getD, List.getElem?_eq_getElem hnl] at h5
        show (ns[0]).toNat < _
        have h5 : ns[0] < (st.classes.length : Int) := h5
        have : 0 < st.classes.length := a3 (fun z => by rw [z] at hn; exact absurd hn (by decide))
        omega
      · exact q H' l foot' e1 (fun b o e hb => e2 b o (s1 _ _ e) hb) (fun b hb => by
          rcases e3 b hb with z | z | z
          · exact .inl z
          · exact .inr (.inl z)
          · exact .inr (.inr (s1.free z))) (s1.free e4) e5 e6 (step_ok ok b1)
end
end Ks
namespace Ks
open PySem PySem.Spec PyProof.Rows L2
open Vbahal (Class State)
theorem has_len {st : State} {i : Nat} {t : State × List Int} (h : t.2.length ≤ 30) : (Vbahal.has st i t).2.length ≤ 30 := by
  unfold Vbahal.has
  split
  · exact (by show 1 ≤ 30; decide)
  · split
    · exact (by show 1 ≤ 30; decide)
    · exact h
theorem ok_len (l : List Nat) : (Vbahal.ok l).length = l.length + 1 := by
  unfold Vbahal.ok Vbahal.ints
  rw [List.length_cons, List.length_map]
theorem requested_len (st : State) : ∀ (q : List Nat) (t x : Nat), (Vbahal.requested st t x q).length = q.length
  | [], _, _ => rfl
  | a :: q, t, x => by
    unfold Vbahal.requested
    split
    · rw [List.length_cons, requested_len st q, List.length_cons]
    · rw [List.length_cons, requested_len st q, List.length_cons]
theorem step_len {st : State} (ok : StOk st) : ∀ {c : Vbahal.Call}, CallOk c → (Vbahal.step st c).2.length ≤ 30
  | .new n f, h => by
    show (if Vbahal.falling f = false then (st, [-5]) else _).2.length ≤ 30
    split <;> exact (by show 1 ≤ 30; decide)
  | .demand i w, h => has_len (by split <;> exact (by show 1 ≤ 30; decide))
  | .observe i d, h => has_len (by
    split
    · exact (by show 1 ≤ 30; decide)
    · exact (by show 2 ≤ 30; decide))
  | .value i x, h => has_len (by
    split
    · exact (by show 1 ≤ 30; decide)
    · exact (by show 3 ≤ 30; decide))
  | .marginal i x, h => has_len (by
    split
    · exact (by show 1 ≤ 30; decide)
    · exact (by show 3 ≤ 30; decide))
  | .protections, h => has_len (by
    show (Vbahal.ok (Vbahal.protections st)).length ≤ 30
    rw [ok_len, prots_eq, prots_len]
    have := ok.len
    omega)
  | .decide i x n, h => has_len (by
    split
    · exact (by show 1 ≤ 30; decide)
    · exact (by show 2 ≤ 30; decide))
  | .play d, h => has_len (by
    split
    · exact (by show 1 ≤ 30; decide)
    · show (Vbahal.ok _).length ≤ 30
      rw [ok_len, List.length_append, played_len]
      have := h.2
      show d.length + 1 + 1 ≤ 30
      omega)
  | .mean p, h => has_len (by
    split
    · exact (by show 1 ≤ 30; decide)
    · exact (by show 3 ≤ 30; decide))
  | .known d, h => has_len (by
    split
    · exact (by show 1 ≤ 30; decide)
    · show (Vbahal.ok _).length ≤ 30
      rw [ok_len, List.length_append, known_len]
      have := h.2
      show d.length + 1 + 1 ≤ 30
      omega)
  | .meanKnown, h => has_len (by show 3 ≤ 30; decide)
  | .chance i n, h => has_len (by show 3 ≤ 30; decide)
  | .asked i, h => has_len (by show 3 ≤ 30; decide)
  | .period w, h => has_len (by
    split
    · exact (by show 1 ≤ 30; decide)
    · split
      · exact (by show 1 ≤ 30; decide)
      · split
        · exact (by show 1 ≤ 30; decide)
        · exact (by show 2 ≤ 30; decide))
  | .spanValue t x, h => has_len (by
    split
    · exact (by show 1 ≤ 30; decide)
    · split
      · exact (by show 1 ≤ 30; decide)
      · exact (by show 3 ≤ 30; decide))
  | .accept t x, h => has_len (by
    split
    · exact (by show 1 ≤ 30; decide)
    · split
      · exact (by show 1 ≤ 30; decide)
      · exact (by show 2 ≤ 30; decide))
  | .requests x q, h => has_len (by
    split
    · exact (by show 1 ≤ 30; decide)
    · split
      · exact (by show 1 ≤ 30; decide)
      · show (Vbahal.ok _).length ≤ 30
        rw [ok_len, List.length_append, requested_len]
        have := h.2
        show q.length + 1 + 1 ≤ 30
        omega)
  | .clear, h => has_len (by show 1 ≤ 30; decide)
  | .shown, h => has_len (by
    show (Vbahal.ok _).length ≤ 30
    rw [ok_len, List.length_append, List.length_map]
    have := ok.len
    show 3 + st.classes.length + 1 ≤ 30
    omega)
theorem stepRows_len {st : State} (ok : StOk st) {pl : Nat} {ns : List Int} {rows : List (List Int)} {f : Form} (hf : FORMS19[pl]? = some f) (h1 : ns.length = f.1.length) (h2 : rows.length = f.2.length) : (Vbahal.stepRows st (((pl : Int) :: ns) :: rows)).2.length ≤ 30 := by
  obtain ⟨r1, r2⟩ := ref_step (st := st) hf h1 h2
  by_cases e : refN NAMING st pl f ns rows = 0
  · obtain ⟨a1, a2, _⟩ := r2 e
    rw [a2]
    exact step_len ok (range_ok pl ns rows f hf h1 h2 a1).1
  · rw [r1 e]
    exact (by show 1 ≤ 30; decide)
theorem call_shape {l t : List Int} {c : List (List Int)} (h : PyFlat.call PyVbahal.shape l = some (c, t)) : PyVbahal.whole c = c := by
  cases l with
  | nil => cases h
  | cons p r =>
    obtain ⟨n, k, xs, h1, h2, h3, rfl⟩ := call_inv h
    obtain ⟨h0, f, hf, e1, e2, _⟩ := shape_ok p n k h1
    obtain ⟨pl, rfl⟩ := Int.eq_ofNat_of_zero_le h0
    rw [Int.toNat_natCast] at hf
    exact whole_ok pl _ xs f hf (by rw [List.length_take, Nat.min_eq_left h2, e1]) (by rw [rows_len h3, e2])
theorem calls_whole : ∀ (f : Nat) (l : List Int) (cs : List (List (List Int))), PyFlat.calls PyVbahal.shape f l = some cs → cs.map PyVbahal.whole = cs
  | f, [], cs, h => by
    unfold PyFlat.calls at h
    cases h
    rfl
  | 0, _ :: _, cs, h => by
    simp only [PyFlat.calls] at h
    cases h
  | f + 1, p :: r, cs, h => by
    simp only [PyFlat.calls] at h
    split at h
    · cases h
    · rename_i c t hc
      split at h
      · cases h
      · rename_i ds hd
        cases h
        rw [List.map_cons, call_shape hc, calls_whole f t ds hd]
theorem calls_eq (l : List Int) : PyVbahal.calls l = PyFlat.calls PyVbahal.shape l.length l := by
  unfold PyVbahal.calls
  split
  · rename_i h
    exact h.symm
  · rename_i cs h
    rw [h, calls_whole _ _ _ h]
theorem calls_cons {f : Nat} {p : Int} {r : List Int} {cs : List (List (List Int))} (h : PyFlat.calls PyVbahal.shape f (p :: r) = some cs) : ∃ (g : Nat) (c : List (List Int)) (t : List Int) (ds : List (List (List Int))), PyFlat.call PyVbahal.shape (p :: r) = some (c, t) ∧ PyFlat.calls PyVbahal.shape g t = some ds ∧ cs = c :: ds := by
  cases f with
  | zero => simp only [PyFlat.calls] at h; cases h
  | succ g =>
    simp only [PyFlat.calls] at h
    split at h
    · cases h
    · rename_i c t hc
      split at h
      · cases h
      · rename_i ds hd
        cases h
        exact ⟨g, c, t, ds, hc, hd, rfl⟩
theorem calls_nil {f : Nat} {cs : List (List (List Int))} (h : PyFlat.calls PyVbahal.shape f [] = some cs) : cs = [] := by
  unfold PyFlat.calls at h
  cases h
  rfl
theorem told_cons (a : List Int) (l : List (List Int)) : PyFlat.told (a :: l) = ((a.length : Nat) : Int) :: a ++ PyFlat.told l := by
  unfold PyFlat.told
  rw [List.flatMap_cons]
theorem PlanAt0.move {CP : Addr} {H H' : Hp} {p pa an : Addr} {foot : List Addr} {st : State} (h : PlanAt0 CP H p pa foot st) (hn : an ∉ foot) (k : ∀ b o, H b = some o → b ≠ an → H' b = some o) : PlanAt0 CP H' p pa foot st := by
  obtain ⟨dx, fs, fa, wa, was, e, h1, h2, h3, h4, h5, hq, h6, h7, h8, h9, h10⟩ := h.ex
  subst e
  exact ⟨dx, fs, fa, wa, was, rfl, k _ _ h1 (fun e => hn (by simp [← e])), h2, h3, h4, h5, hq, k _ _ h6 (fun e => hn (by simp [← e])), k _ _ h7 (fun e => hn (by simp [← e])), h8,
    fun j a c e1 e2 => k _ _ (h9 j a c e1 e2) (fun e => hn (by rw [← e]; simp [List.mem_of_getElem? e1])), h10⟩
theorem PlanAt.move {CP : Addr} {H H' : Hp} {p an : Addr} {foot : List Addr} {st : State} (h : PlanAt CP H p foot st) (hn : an ∉ foot) (k : ∀ b o, H b = some o → b ≠ an → H' b = some o) : PlanAt CP H' p foot st := by
  obtain ⟨pa, pas, foot0, e, h1, h2, h3, h4⟩ := h.ex
  subst e
  exact ⟨pa, pas, foot0, rfl, h1.move (fun m => hn (List.mem_append_left _ m)) k, h2.keep fun b o e m => k b o e fun z => hn (List.mem_append_right _ (by rw [← z]; exact m)), h3, h4⟩
section
variable {P : Program} {w : World} {K : PySem.W.Frag} {mg : Str → Option Value} {base : Heap} {CW CC CP FA NA HA : Addr}
def spAnswers (K : PySem.W.Frag) : Sp := fun vs H Q _ => ∃ (a : Addr) (ns : List Int), vs = [.ref a] ∧ SqL K H a (ns.map V.int) ∧ ns.length ≤ 24000 ∧ PyVbahal.answers_asked ns = true ∧ ∀ (H' : Hp) (p : Addr), H' p = some (.lst ((PyVbahal.answers ns).map V.int)) → Q (.ref p) H'
theorem asked_calls {ns : List Int} (h : PyVbahal.answers_asked ns = true) : ∃ cs, PyFlat.calls PyVbahal.shape ns.length ns = some cs ∧ cs.length ≤ 100 ∧ (∀ c ∈ cs, ∀ r ∈ c, r.length ≤ 40) ∧ PyVbahal.answers ns = PyFlat.told (PyFlat.played Vbahal.stepRows Vbahal.start cs) := by
  unfold PyVbahal.answers_asked at h
  unfold PyVbahal.answers
  rw [calls_eq] at *
  cases e : PyFlat.calls PyVbahal.shape ns.length ns with
  | none => rw [e] at h; cases h
  | some cs =>
    rw [e] at h
    dsimp only at h
    rw [Bool.and_eq_true] at h
    obtain ⟨h1, h2⟩ := h
    refine ⟨cs, rfl, of_decide_eq_true h1, fun c hc r hr => ?_, rfl⟩
    unfold VbahalNeutral.asked at h2
    rw [Bool.and_eq_true, Bool.and_eq_true] at h2
    have h3 := List.all_eq_true.mp h2.2.2 c hc
    unfold VbahalNeutral.asked1 at h3
    rw [Bool.and_eq_true, Bool.and_eq_true] at h3
    have h4 := List.all_eq_true.mp h3.2.2 r hr
    rw [Bool.and_eq_true] at h4
    exact of_decide_eq_true h4.1
theorem ok_answers (F : FnIn K mg "answers" s_answers ["calls"]) (T : Txt K mg CW CC CP) (GI_Plan : ClDo P w K mg base 1 "Plan" ["self"] CP (spInitP CP)) (G_read_call : FnDo P w K mg base 3 "read_call" s_read_call ["calls", "start"] (spRead K CC FORMS19))
    (G_answer : FnDo P w K mg base 20 "answer" s_answer ["plan", "call"] (spAnswer CC CP)) : FnDo P w K mg base 21 "answers" s_answers ["calls"] (spAnswers K) := by
  refine F.doIt sc_answers (fun vs H Q E h => ?_) (fun f cdv A outer s H vs Q E hr h => ?_)
  · obtain ⟨a, ns, rfl, _⟩ := h
    rfl
  · obtain ⟨ca, ns, rfl, hca, hnl, hask, q⟩ := h
    have hca : SqL K H ca (IL ns) := hca
    obtain ⟨cs0, hcs0, hcl0, hcr0, hans⟩ := asked_calls hask
    refine ⟨_, (pss_cons (ps_set (i := 1) sc_answers.nd rfl (by first | exact Or.inl rfl | exact Or.inr rfl) (pe_makeO0 GI_Plan (hr.mono (by decide)) rfl)) (pss_cons (ps_set (i := 2) sc_answers.nd rfl (by first | exact Or.inl rfl | exact Or.inr rfl) (pe_lst pa_nil)) (pss_cons (ps_set (i := 3) sc_answers.nd rfl (by first | exact Or.inl rfl | exact Or.inr rfl) pe_int) (pss_cons (ps_while PassesOwn.never (pt_cmpR op_lt (pv 3) (pe_callB (call_lenK K rfl) (by rfl) T.no_len PySem.boot_len (pa_cons (pv 0) pa_nil)) (nomark _)) (pss_cons (ps_set (i := 4) sc_answers.nd rfl (by first | exact Or.inl rfl | exact Or.inr rfl) (pe_callO G_read_call (hr.mono (by decide)) rfl (pa_cons (pv 0) (pa_cons (pv 3) pa_nil)))) (pss_cons (ps_set (i := 5) sc_answers.nd rfl (by first | exact Or.inl rfl | exact Or.inr rfl) (pe_callO G_answer (hr.mono (by decide)) rfl (pa_cons (pv 1) (pa_cons (pv 4) pa_nil)))) (pss_cons (ps_expr (pe_bm PySem.F.plainAttrs_list PySem.F.slot_list_append PySem.F.type_list_append mt_append (pv 2) (pa_cons (pe_callB (call_lenK K rfl) (by rfl) T.no_len PySem.boot_len (pa_cons (pv 5) pa_nil)) pa_nil))) (pss_cons (ps_expr (pe_bm PySem.F.plainAttrs_list PySem.F.slot_list_extend PySem.F.type_list_extend mt_extend (pv 2) (pa_cons (pv 5) pa_nil))) (pss_one (ps_set (i := 3) sc_answers.nd rfl (by first | exact Or.inl rfl | exact Or.inr rfl) (pe_fldK K rfl (pv 4) rfl)))))))) (pss_one (ps_ret (pv 2))))))), ?_⟩
    intro p dp np ndp nep
    refine ⟨p, dp, rfl, upd_same, fun H1 foot1 hP1 k1 kf1 => ⟨rfl, ?_⟩⟩
    have s1 : Same H H1 := Same.made np ndp k1
    have hf1 : ∀ b ∈ foot1, H b = none := fun b hb => by
      rcases kf1 b hb with e | e
      · rw [e]
        exact np
      · cases q : H b with
        | none => rfl
        | some o =>
          rw [upd_ne (ne_of_none q np), upd_ne (ne_of_none q ndp)] at e
          rw [q] at e
          cases e
    refine ⟨Nat.zero_le _, fun an han => ?_⟩
    have s2 : Same H1 (upd H1 an (.lst [])) := Same.upd_new han
    have hanH : H an = none := s1.free han
    refine while_by (fun σ H' => ∃ (j fu : Nat) (st : State) (foot : List Addr) (out : List Int) (rest : List (List (List Int))) (v1 v2 : Option V), σ = [some (.ref ca), some (.ref p), some (.ref an), some (nv j), v1, v2] ∧ Same H H' ∧ H' an = some (.lst (IL out)) ∧ an ∉ foot ∧ PlanAt CP H' p foot st ∧ StOk st ∧
        (∀ b ∈ foot, H b = none) ∧ j ≤ ns.length ∧ PyFlat.calls PyVbahal.shape fu (ns.drop j) = some rest ∧ (∀ c ∈ rest, ∀ r ∈ c, r.length ≤ 40) ∧ rest.length ≤ 100 ∧ out.length + 31 * rest.length ≤ 3100 ∧ out ++ PyFlat.told (PyFlat.played Vbahal.stepRows st rest) = PyVbahal.answers ns)
      (fun σ _ => match σ with | [_, _, _, some (.int j), _, _] => ns.length - j.toNat | _ => 0)
      ⟨0, ns.length, Vbahal.start, foot1, [], cs0, none, none, rfl, s1.trans s2, upd_same, hP1.fresh han, hP1.same s2, start_ok, hf1, Nat.zero_le _, hcs0, hcr0, hcl0, ?_, hans.symm⟩ ?_ ?_
    · show 0 + 31 * cs0.length ≤ 3100
      omega
    · rintro σ H' ⟨j, fu, st, foot, out, rest, v1, v2, rfl, s3, hout, hanf, hP, ok, hff, hjl, hcalls, hcr, hrl, hlen, heq⟩
      refine ⟨_, rfl, _, rfl, ca, _, rfl, .inl (s3.seq hca), _, _, rfl, rfl, _, rfl, ?_⟩
      rw [IL_len]
      refine ite2 (fun hc => ?_) (fun hc => ?_)
      · have hc : j < ns.length := by
          have := of_decide_eq_true hc
          omega
        obtain ⟨z, r, hzr⟩ : ∃ z r, ns.drop j = z :: r := ⟨_, _, List.drop_eq_getElem_cons hc⟩
        rw [hzr] at hcalls
        obtain ⟨fu', cl, t, ds, hcl, hds, rfl⟩ := calls_cons hcalls
        rw [← hzr] at hcl
        refine ⟨_, rfl, _, rfl, ca, j, ns, cl, t, rfl, s3.seq hca, by omega, hcl, fun H4 c nu ro as pl en fm args rows e1 e2 e3 e4 e5 s4 hC hnu hnu0 hro hasn hro0 hc0 hje hen het => ?_⟩
        subst e1
        have hPl4 := hP.same s4
        have hasf : ∀ a ∈ as, a ∉ foot := fun a ha hb => by
          obtain ⟨o, ho⟩ := hP.there a hb
          rw [hasn a ha] at ho
          cases ho
        have hrows : ∀ r ∈ rows, r.length ≤ 1000 := fun r hr => by
          have := hcr _ (List.mem_cons_self ..) r (List.mem_cons_of_mem _ hr)
          omega
        refine ⟨_, rfl, _, rfl, p, c, nu, ro, foot, as, st, pl, en, fm, args, rows, rfl, hPl4, ok, hC, hnu, hro, hasf, e3, e4, e5, hrows, fun H5 l foot' hP5 k5 kf5 hl4 hl5 hlf ok5 => ?_⟩
        have hsl := stepRows_len ok e3 e4 e5
        generalize hst : Vbahal.stepRows st (((pl : Int) :: args) :: rows) = res at *
        have han4 : H4 an = some (.lst (IL out)) := s4 _ _ hout
        have han5 : H5 an = some (.lst (IL out)) := k5 _ _ han4 hanf
        have hlan : l ≠ an := fun e => by rw [e, han4] at hl4; cases hl4
        have hanf' : an ∉ foot' := fun hb => by
          rcases kf5 an hb with e | e | e
          · exact hanf e
          · have := hasn an e
            rw [hout] at this
            cases this
          · rw [han4] at e
            cases e
        have hcf : c ∉ foot := fun hb => by
          obtain ⟨o, ho⟩ := hP.there c hb
          rw [hc0] at ho
          cases ho
        obtain ⟨cx, gs, c1, c2, c3, c4, c5⟩ := hC
        have hcan : c ≠ an := fun e => by rw [e, hout] at hc0; cases hc0
        have hrl2 : ds.length + 1 ≤ 100 := hrl
        have hlen2 : out.length + 31 * (ds.length + 1) ≤ 3100 := hlen
        refine ⟨_, rfl, .inl ⟨rfl, _, SqL.of han5⟩, _, rfl, l, _, rfl, .inl (SqL.of hl5), an, _, _, rfl, rfl, han5, ?_, ?_⟩
        · rw [IL_len]
          show out.length < 16777216
          omega
        rw [IL_len]
        have k6 : ∀ b o, H5 b = some o → b ≠ an → upd H5 an (.lst (IL out ++ [V.int (res.2.length : Nat)])) b = some o := fun b o e hb => by rw [upd_ne hb]; exact e
        refine ⟨_, rfl, .inl ⟨rfl, _, SqL.of upd_same⟩, _, rfl, an, l, _, _, rfl, rfl, upd_same, k6 _ _ hl5 hlan, ?_, ?_⟩
        · rw [List.length_append, IL_len, IL_len]
          show out.length + 1 + res.2.length ≤ 16777216
          omega
        have k7 : ∀ b o, H5 b = some o → b ≠ an → upd (upd H5 an (.lst (IL out ++ [V.int (res.2.length : Nat)]))) an (.lst (IL out ++ [V.int (res.2.length : Nat)] ++ IL res.2)) b = some o := fun b o e hb => by rw [upd_ne hb, upd_ne hb]; exact e
        refine ⟨_, rfl, c, CC, cx, gs, _, rfl, k7 _ _ (k5 _ _ c1 hcf) hcan, T.cC, T.c_end, c5, ?_⟩
        refine ⟨⟨en, fu', res.1, foot', out ++ ((res.2.length : Nat) : Int) :: res.2, ds, some (.ref c), some (.ref l), rfl, ?_, ?_, hanf', ?_, ok5, ?_, hen, ?_, fun d hd => hcr d (List.mem_cons_of_mem _ hd), by omega, ?_, ?_⟩, ?_⟩
        · intro b o e
          have hb4 : H4 b = some o := s4 _ _ (s3 _ _ e)
          have hbf : b ∉ foot := fun hb => by
            have := hff b hb
            rw [e] at this
            cases this
          exact k7 _ _ (k5 _ _ hb4 hbf) (ne_of_none e hanH)
        · rw [upd_same]
          unfold IL
          rw [List.map_append, List.map_cons, List.append_assoc]
          rfl
        · exact hP5.move hanf' k7
        · intro b hb
          rcases kf5 b hb with e | e | e
          · exact hff b e
          · exact s3.free (hasn b e)
          · exact (s3.trans s4).free e
        · rw [het]
          exact hds
        · rw [List.length_append, List.length_cons]
          omega
        · rw [← heq]
          show _ = out ++ PyFlat.told ((Vbahal.stepRows st (((pl : Int) :: args) :: rows)).2 :: PyFlat.played Vbahal.stepRows (Vbahal.stepRows st (((pl : Int) :: args) :: rows)).1 ds)
          rw [hst, told_cons, List.append_assoc]
        · show ns.length - ((en : Nat) : Int).toNat < ns.length - ((j : Nat) : Int).toNat
          omega
      · have hc : ns.length ≤ j := by
          have : ¬ (j : Int) < ((ns.length : Nat) : Int) := fun h => hc (decide_eq_true h)
          omega
        have hnil : ns.drop j = [] := List.drop_eq_nil_of_le hc
        rw [hnil] at hcalls
        have hr0 := calls_nil hcalls
        subst hr0
        have heq : out = PyVbahal.answers ns := by
          rw [← heq]
          exact (List.append_nil _).symm
        refine ⟨_, rfl, ?_⟩
        refine q H' an ?_
        rw [hout, heq]
        rfl
    · intro σ H' Q1 Q2 hm h
      obtain ⟨v, h1, v2, h2, p1, ys1, h3, h4, i, jj, h11, h12, kk, h13, h14⟩ := h
      exact ⟨v, h1, v2, h2, p1, ys1, h3, h4, i, jj, h11, h12, kk, h13, hm _ _ h14⟩
end
end Ks
namespace Ks
open PySem PySem.Spec PyProof.Rows L2
def tupAt (K : PySem.W.Frag) (a : Addr) : Option (List Value) := match K.lookup a with
  | some ⟨.type "tuple", _, .seq its _, _⟩ => some its.toList
  | _ => none
theorem tupAt_kt {K : PySem.W.Frag} {a : Addr} {vs : List Value} {xs : List V} (h : tupAt K a = some vs) (hl : vs.length ≤ sizeLine) (hv : Vals xs vs) : KT K a xs := by
  unfold tupAt at h
  split at h
  · rename_i d its n sl hk
    cases h
    exact ⟨_, its, n, hk, rfl, rfl, by simpa using hl, hv⟩
  · cases h
def pairB (K : PySem.W.Frag) (b : Addr) (p : Int × Int) : Bool := match tupAt K b with
  | some [.int x _, .int y _] => decide (x = p.1) && decide (y = p.2)
  | _ => false
theorem pairB_ok {K : PySem.W.Frag} {b : Addr} {p : Int × Int} (h : pairB K b p = true) : KT K b [.int p.1, .int p.2] := by
  unfold pairB at h
  split at h
  · rename_i x t y u hk
    rw [Bool.and_eq_true] at h
    have e1 := of_decide_eq_true h.1
    have e2 := of_decide_eq_true h.2
    subst e1 e2
    exact tupAt_kt hk (by show 2 ≤ sizeLine; decide) (.cons ⟨_, rfl⟩ (.cons ⟨_, rfl⟩ .nil))
  · cases h
def quadB (K : PySem.W.Frag) (b : Addr) (p : Int × Int × Int × Int) : Bool := match tupAt K b with
  | some [.int x _, .int y _, .int z _, .int v _] => decide (x = p.1) && (decide (y = p.2.1) && (decide (z = p.2.2.1) && decide (v = p.2.2.2)))
  | _ => false
theorem quadB_ok {K : PySem.W.Frag} {b : Addr} {p : Int × Int × Int × Int} (h : quadB K b p = true) : KT K b [.int p.1, .int p.2.1, .int p.2.2.1, .int p.2.2.2] := by
  unfold quadB at h
  split at h
  · rename_i x t y u z s v r hk
    rw [Bool.and_eq_true, Bool.and_eq_true, Bool.and_eq_true] at h
    have e1 := of_decide_eq_true h.1
    have e2 := of_decide_eq_true h.2.1
    have e3 := of_decide_eq_true h.2.2.1
    have e4 := of_decide_eq_true h.2.2.2
    subst e1 e2 e3 e4
    exact tupAt_kt hk (by show 4 ≤ sizeLine; decide) (.cons ⟨_, rfl⟩ (.cons ⟨_, rfl⟩ (.cons ⟨_, rfl⟩ (.cons ⟨_, rfl⟩ .nil))))
  · cases h
def goB {α : Type} (g : Addr → α → Bool) : List Value → List α → Bool
  | [], [] => true
  | .ref b :: vs, p :: l => g b p && goB g vs l
  | _, _ => false
theorem goB_ok {α : Type} {g : Addr → α → Bool} : ∀ {vs : List Value} {l : List α}, goB g vs l = true → ∃ as : List Addr, Vals (as.map V.ref) vs ∧ as.length = l.length ∧ ∀ (j : Nat) (b : Addr) (p : α), as[j]? = some b → l[j]? = some p → g b p = true
  | [], [], _ => ⟨[], .nil, rfl, fun j b p h => by simp at h⟩
  | .ref b :: vs, p :: l, h => by
    have h : (g b p && goB g vs l) = true := h
    rw [Bool.and_eq_true] at h
    obtain ⟨as, h1, h2, h3⟩ := goB_ok h.2
    refine ⟨b :: as, .cons rfl h1, by rw [List.length_cons, List.length_cons, h2], fun j c q e1 e2 => ?_⟩
    cases j with
    | zero =>
      cases e1
      cases e2
      exact h.1
    | succ j => exact h3 j c q (by simpa using e1) (by simpa using e2)
  | [], _ :: _, h => by cases h
  | .ref _ :: _, [], h => by cases h
  | .none :: _, _, h => by cases h
  | .bool _ :: _, _, h => by cases h
  | .int _ _ :: _, _, h => by cases h
  | .float _ _ :: _, _, h => by cases h
  | .str _ _ :: _, _, h => by cases h
  | .bytes _ _ :: _, _, h => by cases h
  | .type _ :: _, _, h => by cases h
  | .builtin _ :: _, _, h => by cases h
  | .ellipsis :: _, _, h => by cases h
  | .notImplemented :: _, _, h => by cases h
def goT {α : Type} (K : PySem.W.Frag) (a : Addr) (g : Addr → α → Bool) (l : List α) : Bool := match tupAt K a with
  | some vs => goB g vs l
  | none => false
theorem goT_ok {α : Type} {K : PySem.W.Frag} {a : Addr} {g : Addr → α → Bool} {l : List α} (h : goT K a g l = true) (hl : l.length ≤ 1000) : ∃ as : List Addr, KT K a (as.map V.ref) ∧ as.length = l.length ∧ ∀ (j : Nat) (b : Addr) (p : α), as[j]? = some b → l[j]? = some p → g b p = true := by
  unfold goT at h
  split at h
  · rename_i vs hk
    obtain ⟨as, h1, h2, h3⟩ := goB_ok h
    refine ⟨as, tupAt_kt hk ?_ h1, h2, h3⟩
    have := h1.length
    rw [List.length_map] at this
    show vs.length ≤ 16777216
    omega
  · cases h
def formB (K : PySem.W.Frag) (a : Addr) (f : Form) : Bool := match tupAt K a with
  | some [.ref aa, .ref ra] => goT K aa (pairB K) f.1 && (goT K ra (quadB K) f.2 && (decide (f.1.length ≤ 1000) && decide (f.2.length ≤ 1000)))
  | _ => false
theorem formB_ok {K : PySem.W.Frag} {a : Addr} {f : Form} (h : formB K a f = true) : FormAt K a f := by
  unfold formB at h
  split at h
  · rename_i aa ra hk
    rw [Bool.and_eq_true, Bool.and_eq_true, Bool.and_eq_true] at h
    obtain ⟨as, a1, a2, a3⟩ := goT_ok h.1 (of_decide_eq_true h.2.2.1)
    obtain ⟨rs, r1, r2, r3⟩ := goT_ok h.2.1 (of_decide_eq_true h.2.2.2)
    exact ⟨⟨aa, ra, as, rs, tupAt_kt hk (by show 2 ≤ sizeLine; decide) (.cons rfl (.cons rfl .nil)), a1, r1, a2, r2, fun j b p e1 e2 => pairB_ok (a3 j b p e1 e2), fun j b p e1 e2 => quadB_ok (r3 j b p e1 e2)⟩⟩
  · cases h
theorem forms_ok {K : PySem.W.Frag} {a : Addr} {fs : List Form} (h : goT K a (formB K) fs = true) (hl : fs.length ≤ 1000) : FormsAt K a fs := by
  obtain ⟨as, h1, h2, h3⟩ := goT_ok h hl
  exact ⟨as, h1, h2, fun j b f e1 e2 => formB_ok (h3 j b f e1 e2)⟩
def natsB (K : PySem.W.Frag) (a : Addr) (l : List Nat) : Bool := match tupAt K a with
  | some vs => go vs l
  | none => false
where go : List Value → List Nat → Bool
  | [], [] => true
  | .int x _ :: vs, n :: l => decide (x = (n : Int)) && go vs l
  | _, _ => false
theorem natsGo_ok : ∀ {vs : List Value} {l : List Nat}, natsB.go vs l = true → Vals (NL l) vs
  | [], [], _ => .nil
  | .int x _ :: vs, n :: l, h => by
    have h : (decide (x = (n : Int)) && natsB.go vs l) = true := h
    rw [Bool.and_eq_true] at h
    have e := of_decide_eq_true h.1
    subst e
    exact .cons ⟨_, rfl⟩ (natsGo_ok h.2)
  | [], _ :: _, h => by cases h
  | .int _ _ :: _, [], h => by cases h
  | .ref _ :: _, _, h => by cases h
  | .none :: _, _, h => by cases h
  | .bool _ :: _, _, h => by cases h
  | .float _ _ :: _, _, h => by cases h
  | .str _ _ :: _, _, h => by cases h
  | .bytes _ _ :: _, _, h => by cases h
  | .type _ :: _, _, h => by cases h
  | .builtin _ :: _, _, h => by cases h
  | .ellipsis :: _, _, h => by cases h
  | .notImplemented :: _, _, h => by cases h
theorem nats_ok {K : PySem.W.Frag} {a : Addr} {l : List Nat} (h : natsB K a l = true) (hl : l.length ≤ 1000) : KT K a (NL l) := by
  unfold natsB at h
  split at h
  · rename_i vs hk
    have hv := natsGo_ok h
    refine tupAt_kt hk ?_ hv
    have := hv.length
    rw [NL_len] at this
    show vs.length ≤ 16777216
    omega
  · cases h
section
variable {K : PySem.W.Frag} {h : Heap} {mg : Str → Option Value}
theorem fnIn_mk {x : Str} {st : Stmt} {ps : List Str} {f : Addr} {oc : Value} {od an : Option Addr} {osl : Array (Option Value)} {kV doc pm cdv ct : Value} (X : K.In h) (G : h.Ns mainGlobals mg) (a : PySem.W.nsIn K mainGlobals x = some (some (.ref f)))
    (l : K.lookup f = some ⟨oc, od, .func (PySem.W.fnOf x x (defArgs st) (defBody st) (defScope st) .none kV doc pm an cdv ct), osl⟩) (c : PySem.W.codeIn K cdv x = true) (k : PySem.W.keepIn K (.ref f) = true)
    (hb : ∀ (kV doc pm : Value) (an : Option Addr) (cdv ct : Value) (us : List Value), us.length = ps.length → bindArgs (PySem.W.fnOf x x (defArgs st) (defBody st) (defScope st) .none kV doc pm an cdv ct) ⟨us, []⟩ = pure (ps.zip us)) : FnIn K mg x st ps := by
  have F := fun_mk (st := st) l c k
  exact ⟨f, _, F, PySem.W.mg_of X G a, F.binds hb⟩
theorem clIn_mk {x q : Str} {st : Stmt} {ps : List Str} {f C : Addr} {oc : Value} {od an : Option Addr} {osl : Array (Option Value)} {kV doc pm cdv ct : Value} (X : K.In h) (G : h.Ns mainGlobals mg) (aC : PySem.W.nsIn K mainGlobals x = some (some (.ref C))) (a : PySem.W.findIn K (.ref C) "__init__" = some (some (.ref f))) (i : PySem.W.isFn K (.ref f) = true)
    (l : K.lookup f = some ⟨oc, od, .func (PySem.W.fnOf "__init__" q (defArgs st) (defBody st) (defScope st) .none kV doc pm an cdv ct), osl⟩) (c : PySem.W.codeIn K cdv q = true) (k : PySem.W.keepIn K (.ref f) = true) (mk : PySem.W.makesIn K C = true) (kc : PySem.W.keepIn K (.ref C) = true)
    (pg : PySem.W.plainGet K C Str.empty = true) (hd : PySem.W.hasDictIn K C = true) (po : PySem.W.plainOver K C = true) (sa : PySem.W.findIn K (.ref C) "__setattr__" = some (some (.builtin "object.__setattr__")))
    (hb : ∀ (kV doc pm : Value) (an : Option Addr) (cdv ct : Value) (us : List Value), us.length = ps.length → bindArgs (PySem.W.fnOf "__init__" q (defArgs st) (defBody st) (defScope st) .none kV doc pm an cdv ct) ⟨us, []⟩ = pure (ps.zip us)) : ClIn K mg x q st ps C ∧ Cls K C := by
  have F := fun_mk (st := st) l c k
  exact ⟨⟨f, _, F, ⟨mk, a, i, kc⟩, PySem.W.mg_of X G aC, F.binds hb⟩, ⟨pg, hd, po, sa⟩⟩
end
end Ks
namespace Ks
open PySem PySem.Spec PyProof.Rows L2
section
variable {K : PySem.W.Frag} {h : Heap} {mg : Str → Option Value}
theorem cl2_mk {x q : Str} {st : Stmt} {ps : List Str} {C : Addr} {n1 n2 : Str} (hC : ClIn K mg x q st ps C ∧ Cls K C) (a1 : PySem.W.findIn K (.ref C) n1 = some none) (a2 : PySem.W.findIn K (.ref C) n2 = some none) : ∃ C, ClIn K mg x q st ps C ∧ Cls K C ∧ NoAttr K C n1 ∧ NoAttr K C n2 := ⟨C, hC.1, hC.2, a1, a2⟩
theorem cl4_mk {x q : Str} {st : Stmt} {ps : List Str} {C : Addr} {n1 n2 n3 n4 : Str} (hC : ClIn K mg x q st ps C ∧ Cls K C) (a1 : PySem.W.findIn K (.ref C) n1 = some none) (a2 : PySem.W.findIn K (.ref C) n2 = some none) (a3 : PySem.W.findIn K (.ref C) n3 = some none) (a4 : PySem.W.findIn K (.ref C) n4 = some none) :
    ∃ C, ClIn K mg x q st ps C ∧ Cls K C ∧ NoAttr K C n1 ∧ NoAttr K C n2 ∧ NoAttr K C n3 ∧ NoAttr K C n4 := ⟨C, hC.1, hC.2, a1, a2, a3, a4⟩
theorem forms_mk {x : Str} {a : Addr} {fs : List Form} (X : K.In h) (G : h.Ns mainGlobals mg) (e : PySem.W.nsIn K mainGlobals x = some (some (.ref a))) (hb : goT K a (formB K) fs = true) (hl : fs.length ≤ 1000) : ∃ a, mg x = some (.ref a) ∧ FormsAt K a fs := ⟨a, PySem.W.mg_of X G e, forms_ok hb hl⟩
theorem nats_mk {x : Str} {a : Addr} {l : List Nat} (X : K.In h) (G : h.Ns mainGlobals mg) (e : PySem.W.nsIn K mainGlobals x = some (some (.ref a))) (hb : natsB K a l = true) (hl : l.length ≤ 1000) : ∃ a, mg x = some (.ref a) ∧ KT K a (NL l) := ⟨a, PySem.W.mg_of X G e, nats_ok hb hl⟩
theorem int_mk {x : Str} {i : Int} {t : Tok} (X : K.In h) (G : h.Ns mainGlobals mg) (e : PySem.W.nsIn K mainGlobals x = some (some (.int i t))) : ∃ t, mg x = some (.int i t) := ⟨t, PySem.W.mg_of X G e⟩
def refB (K : PySem.W.Frag) (b : Addr) (x : Str) : Bool := match PySem.W.nsIn K mainGlobals x with
  | some (some (.ref c)) => decide (c = b)
  | _ => false
theorem refB_ok {b : Addr} {x : Str} (X : K.In h) (G : h.Ns mainGlobals mg) (hb : refB K b x = true) : mg x = some (.ref b) := by
  unfold refB at hb
  split at hb
  · rename_i c e
    have := of_decide_eq_true hb
    subst this
    exact PySem.W.mg_of X G e
  · cases hb
theorem handlers_mk {x : Str} {a : Addr} {names : List Str} (X : K.In h) (G : h.Ns mainGlobals mg) (e : PySem.W.nsIn K mainGlobals x = some (some (.ref a))) (hb : goT K a (refB K) names = true) (hl : names.length ≤ 1000) :
    ∃ (a : Addr) (hs : List Addr), mg x = some (.ref a) ∧ KT K a (hs.map V.ref) ∧ ∀ (j : Nat) (y : Str) (f : Addr), names[j]? = some y → mg y = some (.ref f) → hs[j]? = some f := by
  obtain ⟨as, h1, h2, h3⟩ := goT_ok hb hl
  refine ⟨a, as, PySem.W.mg_of X G e, h1, fun j y f e1 e2 => ?_⟩
  have hj : j < as.length := by
    have := (List.getElem?_eq_some_iff.mp e1).1
    omega
  have e3 := refB_ok X G (h3 j as[j] y (List.getElem?_eq_getElem hj) e1)
  rw [e2] at e3
  cases e3
  exact List.getElem?_eq_getElem hj
end
theorem FnDo.at {P : Program} {w : World} {K : PySem.W.Frag} {mg : Str → Option Value} {base : Heap} {k : Nat} {x : Str} {st : Stmt} {ps : List Str} {sp : Sp} {f0 : Addr} {fd0 : FuncData} (D : FnDo P w K mg base k x st ps sp) (F0 : Fun K x x st f0 fd0) (m0 : mg x = some (.ref f0)) : FnOk P w K mg base CX0 k f0 fd0 ps sp := by
  obtain ⟨f, fd, F, m, b, G⟩ := D
  rw [m0] at m
  cases m
  obtain ⟨oc, od, kV, doc, pm, an, cdv, ct, osl, rfl, lk, hcd⟩ := F.ex
  obtain ⟨oc', od', kV', doc', pm', an', cdv', ct', osl', rfl, lk', hcd'⟩ := F0.ex
  rw [lk] at lk'
  cases lk'
  exact G
end Ks
namespace Ks
open PySem PySem.Spec PyProof.Rows L2
open Vbahal (Class State)
theorem mut_hand {CP : Addr} {pl : Nat} {C' : State → List Nat → List (List Nat) → Vbahal.Call → Prop} (h : ∀ st ns rows c, CPl NAMING pl st ns rows c → CallOk c → C' st ns rows c) {vs : List V} {H : Hp} {Q : VK} {E : XK} (x : spMut CP (CPl NAMING pl) vs H Q E) : spMut CP C' vs H Q E := by
  obtain ⟨p, nu, ro, foot, as, st, ns, rows, c, e, hp, ok, hnu, hro, hal, hat, hnf, hc, hk, q⟩ := x
  exact ⟨p, nu, ro, foot, as, st, ns, rows, c, e, hp, ok, hnu, hro, hal, hat, hnf, h st ns rows c hc hk, hk, q⟩
theorem ro_hand {K : PySem.W.Frag} {CP : Addr} {pl : Nat} {C' : State → List Nat → List (List Nat) → Vbahal.Call → Prop} (h : ∀ st ns rows c, CPl NAMING pl st ns rows c → CallOk c → C' st ns rows c ∧ (Vbahal.step st c).1 = st) (h0 : pl ≠ 0) {vs : List V} {H : Hp} {Q : VK} {E : XK} (x : spMut CP (CPl NAMING pl) vs H Q E) : spRO K CP C' vs H Q E := by
  have x2 : spMut CP (fun st ns rows c => C' st ns rows c ∧ 0 < st.classes.length ∧ (Vbahal.step st c).1 = st) vs H Q E := mut_hand (fun st ns rows c hc hk => ⟨(h st ns rows c hc hk).1, hc.2.2.1 h0, (h st ns rows c hc hk).2⟩) x
  obtain ⟨p, nu, ro, st, ns, rows, c, e, h1, h2, h3, h4, h5, h6, q⟩ := spRO_mut (K := K) (fun _ _ _ _ h => h.2) x2
  exact ⟨p, nu, ro, st, ns, rows, c, e, h1, h2, h3, h4, h5, h6.1, q⟩
theorem has_same {st : State} {i : Nat} {t : State × List Int} (h : t.1 = st) : (Vbahal.has st i t).1 = st := has_st (R := fun s => s = st) rfl fun _ => h
theorem ite_same {st : State} {c : Prop} [Decidable c] {a b : State × List Int} (h1 : a.1 = st) (h2 : b.1 = st) : (if c then a else b).1 = st := by
  split
  · exact h1
  · exact h2
def CMeanKnown (st : State) (ns : List Nat) (rows : List (List Nat)) (c : Vbahal.Call) : Prop := c = .meanKnown
def CChance (st : State) (ns : List Nat) (rows : List (List Nat)) (c : Vbahal.Call) : Prop := ∃ i n, ns = [i, n] ∧ i < st.classes.length ∧ c = .chance i n
def CAsked (st : State) (ns : List Nat) (rows : List (List Nat)) (c : Vbahal.Call) : Prop := ∃ i, ns = [i] ∧ i < st.classes.length ∧ c = .asked i
def CPeriod (st : State) (ns : List Nat) (rows : List (List Nat)) (c : Vbahal.Call) : Prop := ∃ ws, rows = [ws] ∧ 0 < st.classes.length ∧ c = .period ws
def CSpan (st : State) (ns : List Nat) (rows : List (List Nat)) (c : Vbahal.Call) : Prop := ∃ t x, ns = [t, x] ∧ c = .spanValue t x
def CAccept (st : State) (ns : List Nat) (rows : List (List Nat)) (c : Vbahal.Call) : Prop := ∃ t x, ns = [t, x] ∧ 1 ≤ t ∧ c = .accept t x
def CRequests (st : State) (ns : List Nat) (rows : List (List Nat)) (c : Vbahal.Call) : Prop := ∃ x q, ns = [x] ∧ rows = [q] ∧ q.length ≤ 20 ∧ c = .requests x q
def CClear (st : State) (ns : List Nat) (rows : List (List Nat)) (c : Vbahal.Call) : Prop := 0 < st.classes.length ∧ c = .clear
def CShown (st : State) (ns : List Nat) (rows : List (List Nat)) (c : Vbahal.Call) : Prop := c = .shown
section
variable {st : State} {ns : List Nat} {rows : List (List Nat)} {c : Vbahal.Call}
theorem pl_0 (h : CPl NAMING 0 st ns rows c) : CNew st ns rows c := by
  obtain ⟨rfl, ⟨f, hf, h1, h2⟩, h3, h4⟩ := h
  cases hf
  obtain ⟨a, rfl⟩ := len1 h1
  obtain ⟨r, rfl⟩ := len1 h2
  exact ⟨a, r, rfl, rfl, rfl⟩
theorem pl_1 (h : CPl NAMING 1 st ns rows c) : CDemand st ns rows c := by
  obtain ⟨rfl, ⟨f, hf, h1, h2⟩, h3, h4⟩ := h
  cases hf
  obtain ⟨a, rfl⟩ := len1 h1
  obtain ⟨r, rfl⟩ := len1 h2
  exact ⟨a, r, rfl, rfl, h4 (by decide), rfl⟩
theorem pl_2 (h : CPl NAMING 2 st ns rows c) : CObserve st ns rows c := by
  obtain ⟨rfl, ⟨f, hf, h1, h2⟩, h3, h4⟩ := h
  cases hf
  obtain ⟨a, b, rfl⟩ := len2 h1
  exact ⟨a, b, rfl, h4 (by decide), rfl⟩
theorem pl_3 (h : CPl NAMING 3 st ns rows c) : CValue st ns rows c ∧ (Vbahal.step st c).1 = st := by
  obtain ⟨rfl, ⟨f, hf, h1, h2⟩, h3, h4⟩ := h
  cases hf
  obtain ⟨a, b, rfl⟩ := len2 h1
  exact ⟨⟨a, b, rfl, h4 (by decide), rfl⟩, has_same (ite_same rfl rfl)⟩
theorem pl_4 (h : CPl NAMING 4 st ns rows c) (hk : CallOk c) : CMarginal st ns rows c ∧ (Vbahal.step st c).1 = st := by
  obtain ⟨rfl, ⟨f, hf, h1, h2⟩, h3, h4⟩ := h
  cases hf
  obtain ⟨a, b, rfl⟩ := len2 h1
  exact ⟨⟨a, b, rfl, h4 (by decide), hk.1, rfl⟩, has_same (ite_same rfl rfl)⟩
theorem pl_5 (h : CPl NAMING 5 st ns rows c) : CProtections st ns rows c ∧ (Vbahal.step st c).1 = st := by
  obtain ⟨rfl, _⟩ := h
  exact ⟨rfl, has_same rfl⟩
theorem pl_6 (h : CPl NAMING 6 st ns rows c) : CDecide st ns rows c ∧ (Vbahal.step st c).1 = st := by
  obtain ⟨rfl, ⟨f, hf, h1, h2⟩, h3, h4⟩ := h
  cases hf
  obtain ⟨a, b, d, rfl⟩ := len3 h1
  exact ⟨⟨a, b, d, rfl, h4 (by decide), rfl⟩, has_same (ite_same rfl rfl)⟩
theorem pl_7 (h : CPl NAMING 7 st ns rows c) (hk : CallOk c) : CPlay st ns rows c ∧ (Vbahal.step st c).1 = st := by
  obtain ⟨rfl, ⟨f, hf, h1, h2⟩, h3, h4⟩ := h
  cases hf
  obtain ⟨r, rfl⟩ := len1 h2
  have hk : 1 ≤ r.length ∧ r.length ≤ 8 := hk
  exact ⟨⟨r, rfl, by omega, rfl⟩, has_same (ite_same rfl rfl)⟩
theorem pl_8 (h : CPl NAMING 8 st ns rows c) (hk : CallOk c) : CMean st ns rows c ∧ (Vbahal.step st c).1 = st := by
  obtain ⟨rfl, ⟨f, hf, h1, h2⟩, h3, h4⟩ := h
  cases hf
  obtain ⟨r, rfl⟩ := len1 h2
  have hk : r.length ≤ 7 := hk
  exact ⟨⟨r, rfl, by omega, rfl⟩, has_same (ite_same rfl rfl)⟩
theorem pl_9 (h : CPl NAMING 9 st ns rows c) (hk : CallOk c) : CKnown st ns rows c ∧ (Vbahal.step st c).1 = st := by
  obtain ⟨rfl, ⟨f, hf, h1, h2⟩, h3, h4⟩ := h
  cases hf
  obtain ⟨r, rfl⟩ := len1 h2
  have hk : 1 ≤ r.length ∧ r.length ≤ 8 := hk
  exact ⟨⟨r, rfl, by omega, rfl⟩, has_same (ite_same rfl rfl)⟩
theorem pl_10 (h : CPl NAMING 10 st ns rows c) : CMeanKnown st ns rows c ∧ (Vbahal.step st c).1 = st := by
  obtain ⟨rfl, _⟩ := h
  exact ⟨rfl, has_same rfl⟩
theorem pl_11 (h : CPl NAMING 11 st ns rows c) : CChance st ns rows c ∧ (Vbahal.step st c).1 = st := by
  obtain ⟨rfl, ⟨f, hf, h1, h2⟩, h3, h4⟩ := h
  cases hf
  obtain ⟨a, b, rfl⟩ := len2 h1
  exact ⟨⟨a, b, rfl, h4 (by decide), rfl⟩, has_same rfl⟩
theorem pl_12 (h : CPl NAMING 12 st ns rows c) : CAsked st ns rows c ∧ (Vbahal.step st c).1 = st := by
  obtain ⟨rfl, ⟨f, hf, h1, h2⟩, h3, h4⟩ := h
  cases hf
  obtain ⟨a, rfl⟩ := len1 h1
  exact ⟨⟨a, rfl, h4 (by decide), rfl⟩, has_same rfl⟩
theorem pl_13 (h : CPl NAMING 13 st ns rows c) : CPeriod st ns rows c := by
  obtain ⟨rfl, ⟨f, hf, h1, h2⟩, h3, h4⟩ := h
  cases hf
  obtain ⟨r, rfl⟩ := len1 h2
  exact ⟨r, rfl, h3 (by decide), rfl⟩
theorem pl_14 (h : CPl NAMING 14 st ns rows c) : CSpan st ns rows c ∧ (Vbahal.step st c).1 = st := by
  obtain ⟨rfl, ⟨f, hf, h1, h2⟩, h3, h4⟩ := h
  cases hf
  obtain ⟨a, b, rfl⟩ := len2 h1
  exact ⟨⟨a, b, rfl, rfl⟩, has_same (ite_same rfl (ite_same rfl rfl))⟩
theorem pl_15 (h : CPl NAMING 15 st ns rows c) (hk : CallOk c) : CAccept st ns rows c ∧ (Vbahal.step st c).1 = st := by
  obtain ⟨rfl, ⟨f, hf, h1, h2⟩, h3, h4⟩ := h
  cases hf
  obtain ⟨a, b, rfl⟩ := len2 h1
  exact ⟨⟨a, b, rfl, hk.1, rfl⟩, has_same (ite_same rfl (ite_same rfl rfl))⟩
theorem pl_16 (h : CPl NAMING 16 st ns rows c) (hk : CallOk c) : CRequests st ns rows c ∧ (Vbahal.step st c).1 = st := by
  obtain ⟨rfl, ⟨f, hf, h1, h2⟩, h3, h4⟩ := h
  cases hf
  obtain ⟨a, rfl⟩ := len1 h1
  obtain ⟨r, rfl⟩ := len1 h2
  exact ⟨⟨a, r, rfl, rfl, hk.2, rfl⟩, has_same (ite_same rfl (ite_same rfl rfl))⟩
theorem pl_17 (h : CPl NAMING 17 st ns rows c) : CClear st ns rows c := by
  obtain ⟨rfl, _, h3, _⟩ := h
  exact ⟨h3 (by decide), rfl⟩
theorem pl_18 (h : CPl NAMING 18 st ns rows c) : CShown st ns rows c ∧ (Vbahal.step st c).1 = st := by
  obtain ⟨rfl, _⟩ := h
  exact ⟨rfl, has_same rfl⟩
end
end Ks
namespace Ks
open PySem PySem.Spec PyProof.Rows L2
open Vbahal (Class State withPeriod zeros)
section
variable {P : Program} {w : World} {K : PySem.W.Frag} {mg : Str → Option Value} {base : Heap} {CW CC CP : Addr}
theorem at_last {α : Type} {xs : List α} {n : Nat} {x : α} (hl : xs.length = n + 1) (h : xs[n]? = some x) : atI xs (-1) = some x := by
  unfold atI
  have e : ixN xs.length (-1) = some n := by
    unfold ixN
    rw [if_neg (by decide), if_pos (by omega)]
    congr 1
    omega
  rw [e]
  exact h
def spPSum (K : PySem.W.Frag) : Sp := fun vs H Q _ => ∃ (ga wa la : Addr) (x : Nat) (gs ws u : List Nat), vs = [.ref ga, .ref wa, .ref la, nv x] ∧ SqL K H ga (NL gs) ∧ SqL K H wa (NL ws) ∧ SqL K H la (NL u) ∧ ws.length = gs.length + 1 ∧ 1 ≤ x ∧ x < u.length ∧ (∀ z ∈ ws, z ≤ 1000) ∧
  ∀ H' : Hp, Same H H' → Q (nv (psum gs ws u x)) H'
theorem ok_period_sum (F : FnIn K mg "period_sum" s_period_sum ["gains", "weights", "later", "x"]) (T : Txt K mg CW CC CP) : FnDo P w K mg base 1 "period_sum" s_period_sum ["gains", "weights", "later", "x"] (spPSum K) := by
  refine F.doIt sc_period_sum (fun vs H Q E h => ?_) (fun f cdv A outer s H vs Q E hr h => ?_)
  · obtain ⟨ga, wa, la, x, gs, ws, u, rfl, _⟩ := h
    rfl
  · obtain ⟨ga, wa, la, x, gs, ws, u, rfl, hg, hw, hl, hlen, hx1, hx, hws, q⟩ := h
    refine ⟨_, (pss_cons (ps_set (i := 4) sc_period_sum.nd rfl (by first | exact Or.inl rfl | exact Or.inr rfl) (pe_op op_mul (pe_ix (ix_listK K rfl) (pv 1) (pe_un un_neg pe_int) (fun _ _ => rfl)) (pe_ix (ix_listK K rfl) (pv 2) (pv 3) (fun _ _ => rfl)))) (pss_cons (ps_for PassesOwn.never rfl (pi_zipK K rfl rfl T.no_zip (pa_cons (pv 0) (pa_cons (pv 1) pa_nil))) (pg_tupK K (n := 2) rfl rfl (pgs_cons (pg_name (i := 5) sc_period_sum.nd rfl (by first | exact Or.inl rfl | exact Or.inr rfl)) (pgs_cons (pg_name (i := 6) sc_period_sum.nd rfl (by first | exact Or.inl rfl | exact Or.inr rfl)) pgs_nil))) (pss_one (ps_aug (i := 4) sc_period_sum.nd rfl (by first | exact Or.inl rfl | exact Or.inr rfl) (pe_op op_mul (pv 6) (pe_callB (call_max2 rfl) (by rfl) T.no_max boot_max (pa_cons (pe_op op_add (pv 5) (pe_ix (ix_listK K rfl) (pv 2) (pe_op op_sub (pv 3) pe_int) (fun _ _ => rfl))) (pa_cons (pe_ix (ix_listK K rfl) (pv 2) (pv 3) (fun _ _ => rfl)) pa_nil)))) ip_add))) (pss_one (ps_ret (pv 4))))), ?_⟩
    have hle : ws.getD gs.length 0 ≤ 1000 := by
      rw [List.getD_eq_getElem?_getD, List.getElem?_eq_getElem (by omega)]
      exact hws _ (List.getElem_mem _)
    have alast : atI (NL ws) (-1) = some (nv (ws.getD gs.length 0)) := at_last (n := gs.length) (by rw [NL_len]; exact hlen) (by
      unfold NL
      rw [List.getElem?_map, List.getD_eq_getElem?_getD, List.getElem?_eq_getElem (by omega)]
      rfl)
    have ax : atI (NL u) (x : Int) = some (nv (u.getD x 0)) := NL_getD hx
    have ax1 : atI (NL u) ((x : Int) - 1) = some (nv (u.getD (x - 1) 0)) := at_sub (i := 1) hx1 hx
    refine ⟨_, rfl, _, rfl, wa, _, _, _, rfl, rfl, hw, alast, _, rfl, _, rfl, la, _, _, _, rfl, rfl, hl, ax, _, _, rfl, rfl, mulS (by omega), ?_⟩
    refine ⟨_, rfl, _, rfl, ga, wa, _, _, rfl, hg, hw, for_zip (K := K) (a := ga) (b := wa) (xs := NL gs) (ys := NL ws)
      (fun i σ H' => ∃ v1 v2 : Option V, σ = [some (.ref ga), some (.ref wa), some (.ref la), some (nv x), some (nv (ws.getD gs.length 0 * u.getD x 0 + (((gs.zip ws).take i).map (pterm u x)).sum)), v1, v2] ∧ Same H H')
      ⟨none, none, ?_, Same.refl H⟩ (fun i σ H' _ ⟨_, _, _, s5⟩ => ⟨s5.seq hg, s5.seq hw⟩) ?_ ?_⟩
    · rw [List.take_zero]
      show [_, _, _, _, some (V.int (((ws.getD gs.length 0 : Nat) : Int) * ((u.getD x 0 : Nat) : Int))), _, _] = [_, _, _, _, some (V.int ((ws.getD gs.length 0 * u.getD x 0 + 0 : Nat) : Int)), _, _]
      push_cast
      rw [Int.add_zero]
    · rintro i y z Tt σ H' hi hi2 hT ⟨v1, v2, rfl, s5⟩
      obtain ⟨g, hgi, rfl⟩ := NL_get hi
      obtain ⟨n, hn, rfl⟩ := NL_get hi2
      have hn' : n ≤ 1000 := hws n (List.mem_of_getElem? hn)
      have s6 : Same H (upd H' Tt (.tup [nv g, nv n])) := s5.trans (Same.upd_new hT)
      refine ⟨Tt, _, rfl, .inl (.inl upd_same), rfl, _, _, rfl, _, _, rfl, rfl, ?_⟩
      refine ⟨_, rfl, _, rfl, _, rfl, _, rfl, _, rfl, _, _, rfl, rfl, la, _, _, _, rfl, rfl, s6.seq hl, ax1, _, _, rfl, rfl, _, rfl, _, rfl, la, _, _, _, rfl, rfl, s6.seq hl, ax, _, _, rfl, _, _, rfl, rfl, mulS (by omega), _, _, rfl, rfl, ?_⟩
      refine ⟨some (nv g), some (nv n), ?_, s6⟩
      have ez : (gs.zip ws)[i]? = some (g, n) := List.getElem?_zip_eq_some.mpr ⟨hgi, hn⟩
      rw [take_snoc ez, List.map_append, List.sum_append]
      have em : (if ((u.getD x 0 : Nat) : Int) > ((g : Nat) : Int) + ((u.getD (x - 1) 0 : Nat) : Int) then ((u.getD x 0 : Nat) : Int) else ((g : Nat) : Int) + ((u.getD (x - 1) 0 : Nat) : Int)) = ((max (g + u.getD (x - 1) 0) (u.getD x 0) : Nat) : Int) := by
        rw [← max_cast]
        push_cast
        rfl
      show [_, _, _, _, some (V.int (((ws.getD gs.length 0 * u.getD x 0 + (((gs.zip ws).take i).map (pterm u x)).sum : Nat) : Int) + (n : Int) * (if ((u.getD x 0 : Nat) : Int) > ((g : Nat) : Int) + ((u.getD (x - 1) 0 : Nat) : Int) then ((u.getD x 0 : Nat) : Int) else ((g : Nat) : Int) + ((u.getD (x - 1) 0 : Nat) : Int)))), _, _] = _
      rw [em]
      have e2 : (List.map (pterm u x) [(g, n)]).sum = n * max (g + u.getD (x - 1) 0) (u.getD x 0) := by
        show pterm u x (g, n) + 0 = _
        rw [Nat.add_zero]
        rfl
      rw [e2, ← Nat.add_assoc]
      push_cast
      rfl
    · rintro σ H' ⟨v1, v2, rfl, s5⟩
      refine ⟨_, rfl, ?_⟩
      have e : ((gs.zip ws).take (min (NL gs).length (NL ws).length)) = gs.zip ws := by
        rw [NL_len, NL_len, ← List.length_zip, List.take_length]
      rw [e]
      exact q H' s5
def spPWorth (K : PySem.W.Frag) (CW : Addr) : Sp := fun vs H Q _ => ∃ (fa wa la : Addr) (S : Nat) (fares ws : List Nat) (t : Nat × List Nat), vs = [.ref fa, .ref wa, .ref la] ∧ SqL K H fa (NL fares) ∧ SqL K H wa (NL ws) ∧ WorthAt CW H la t ∧
  S ≤ 60 ∧ t.2.length = S + 1 ∧ t.2.getD 0 0 = 0 ∧ ws.length = fares.length + 1 ∧ PGood ws ∧ (∀ f ∈ fares, f ≤ 1000000) ∧
  ∀ (H' : Hp) (a : Addr), Same H H' → WorthAt CW H' a (stepV S fares t ws) → Q (.ref a) H'
theorem ok_period_worth (F : FnIn K mg "period_worth" s_period_worth ["fares", "weights", "later"]) (T : Txt K mg CW CC CP) (GI_Worth : ClDo P w K mg base 1 "Worth" ["self", "above", "below"] CW (spInitW CW))
    (G_period_sum : FnDo P w K mg base 1 "period_sum" s_period_sum ["gains", "weights", "later", "x"] (spPSum K)) :
    FnDo P w K mg base 3 "period_worth" s_period_worth ["fares", "weights", "later"] (spPWorth K CW) := by
  refine F.doIt sc_period_worth (fun vs H Q E h => ?_) (fun f cdv A outer s H vs Q E hr h => ?_)
  · obtain ⟨fa, wa, la, S, fares, ws, t, rfl, _⟩ := h
    rfl
  · obtain ⟨fa, wa, la, S, fares, ws, ⟨ql, u⟩, rfl, hf, hw, ⟨lb, ⟨dx, fs, h1, h2, h3⟩, h4⟩, hS, hlen, hz, hwl, hpg, hff, q⟩ := h
    have hlen : u.length = S + 1 := hlen
    have hz : u.getD 0 0 = 0 := hz
    have hfl : fares.length ≤ 8 := by have := hpg.len; omega
    refine ⟨_, (pss_cons (ps_set (i := 3) sc_period_worth.nd rfl (by first | exact Or.inl rfl | exact Or.inr rfl) (pe_lc rfl sc_period_worth.nd (pi_listK K rfl (pv 0)) (blkOk_by (own := [("fare", 5)]) rfl) (fun _ _ _ _ _ => (pg_name (i := 5) sc_period_worth.nd rfl (by first | exact Or.inl rfl | exact Or.inr rfl))) (fun _ _ _ _ _ => pts_nil) (fun _ _ _ _ _ => (pe_op op_mul (pv 5) (pe_fldK K rfl (pv 2) rfl))))) (pss_cons (ps_set (i := 4) sc_period_worth.nd rfl (by first | exact Or.inl rfl | exact Or.inr rfl) (pe_op op_cat (pe_lst (pa_cons pe_int pa_nil)) (pe_lc rfl sc_period_worth.nd (pi_range2 rfl T.no_range (pa_cons pe_int (pa_cons (pe_callB (call_lenK K rfl) (by rfl) T.no_len PySem.boot_len (pa_cons (pe_fldK K rfl (pv 2) rfl) pa_nil)) pa_nil))) (blkOk_by (own := [("x", 6)]) rfl) (fun _ _ _ _ _ => (pg_name (i := 6) sc_period_worth.nd rfl (by first | exact Or.inl rfl | exact Or.inr rfl))) (fun _ _ _ _ _ => pts_nil) (fun _ _ _ _ _ => (pe_callO G_period_sum (hr.mono (by decide)) rfl (pa_cons (pv 3) (pa_cons (pv 1) (pa_cons (pe_fldK K rfl (pv 2) rfl) (pa_cons (pv 6) pa_nil))))))))) (pss_one (ps_ret (pe_makeO GI_Worth (hr.mono (by decide)) rfl (pa_cons (pv 4) (pa_cons (pe_op op_mul (pe_fldK K rfl (pv 2) rfl) (pe_callB (cr_sumK K rfl rfl) (by rfl) T.no_sum boot_sum (pa_cons (pv 1) pa_nil))) pa_nil))))))), ?_⟩
    refine ⟨_, rfl, fa, rfl, ⟨_, hf⟩, ?_⟩
    intro D hD
    refine lc_list (K := K) (a := fa) (xs := NL fares) (fun j Hj => Same H Hj ∧ Hj D = some (.lst (NL ((fares.map fun f => f * ql).take j)))) ⟨Same.upd_new hD, upd_same⟩ (fun j Hj _ ⟨s5, _⟩ => s5.seq hf) ?_ ?_
    · rintro j y Hj hj ⟨s5, hDj⟩
      obtain ⟨fr, hfr, rfl⟩ := NL_get hj
      have hjl : j < fares.length := (List.getElem?_eq_some_iff.mp hfr).1
      refine ⟨rfl, tYes_i ?_⟩
      refine ⟨_, rfl, _, rfl, la, CW, dx, fs, _, rfl, s5 _ _ h1, T.cW, T.w_below, h3, _, _, rfl, rfl, mulS (hff fr (List.mem_of_getElem? hfr)), _, hDj, ?_, ?_, ?_⟩
      · rw [NL_len, List.length_take]
        show min j _ < 16777216
        omega
      · exact fun b o e => by rw [upd_ne (ne_of_none e hD)]; exact s5 _ _ e
      · have ep : (fares.map fun f => f * ql)[j]? = some (fr * ql) := by rw [List.getElem?_map, hfr]; rfl
        rw [upd_same, take_snoc ep, NL_app]
        show some (HO.lst (_ ++ [V.int ((fr : Int) * (ql : Int))])) = some (HO.lst (_ ++ [V.int ((fr * ql : Nat) : Int)]))
        push_cast
        all_goals rfl
    · rintro Hg ⟨s5, hDg⟩
      rw [NL_len, show fares.length = (fares.map fun f => f * ql).length from (List.length_map ..).symm, List.take_length] at hDg
      refine ⟨(by show 1 ≤ sizeLine; decide), fun l0 hl0 => ?_⟩
      have s6 : Same Hg (upd Hg l0 (.lst [V.int 0])) := Same.upd_new hl0
      have s56 := s5.trans s6
      refine ⟨_, rfl, la, CW, dx, fs, _, rfl, s56 _ _ h1, T.cW, T.w_above, h2, lb, _, rfl, .inl (SqL.of (s56 _ _ h4)), 1, _, rfl, ?_, ?_⟩
      · rw [NL_len]
        omega
      intro D2 hD2
      have e1 : ((((NL u).length : Nat) : Int) - 1).toNat = S := by rw [NL_len]; omega
      have s7 := s56.trans (Same.upd_new (o := .lst []) hD2)
      refine lc_range (n := ((((NL u).length : Nat) : Int) - 1).toNat) (fun j Hj => Same (upd Hg l0 (.lst [V.int 0])) Hj ∧ Hj D2 = some (.lst (NL ((List.range j).map fun i => psum (fares.map fun f => f * ql) ws u (i + 1))))) ⟨Same.upd_new hD2, upd_same⟩ ?_ ?_
      · rintro j Hj hj ⟨s8, hDj⟩
        rw [e1] at hj
        have ey : (1 : Int) + (j : Nat) = ((j + 1 : Nat) : Int) := by omega
        rw [ey]
        have s9 := s56.trans s8
        refine ⟨rfl, tYes_i ?_⟩
        refine ⟨_, rfl, _, rfl, _, rfl, la, CW, dx, fs, _, rfl, s9 _ _ h1, T.cW, T.w_above, h2, _, rfl, ?_⟩
        refine ⟨D, wa, lb, j + 1, fares.map fun f => f * ql, ws, u, rfl, SqL.of (s8 _ _ (s6 _ _ hDg)), s9.seq hw, SqL.of (s9 _ _ h4), by rw [List.length_map]; exact hwl, by omega, by omega, hpg.le, fun H9 s10 => ?_⟩
        refine ⟨_, s10 _ _ hDj, (by rw [NL_len, List.length_map, List.length_range]; show j < 16777216; omega), ?_, ?_⟩
        · intro b o e
          rw [upd_ne (ne_of_none e hD2)]
          exact s10 _ _ (s8 _ _ e)
        · rw [upd_same, List.range_succ, List.map_append, NL_app]
          rfl
      · rintro Hj ⟨s8, hDj⟩
        rw [e1] at hDj
        have s9 := s56.trans s8
        refine ⟨l0, D2, _, _, rfl, rfl, s8 _ _ upd_same, hDj, ?_, fun ab hab => ?_⟩
        · rw [NL_len, List.length_map, List.length_range]
          show 1 + S ≤ 16777216
          omega
        have s10 : Same Hj (upd Hj ab (.lst ([V.int 0] ++ NL ((List.range S).map fun i => psum (fares.map fun f => f * ql) ws u (i + 1))))) := Same.upd_new hab
        have s11 := s9.trans s10
        refine ⟨_, rfl, _, rfl, la, CW, dx, fs, _, rfl, s11 _ _ h1, T.cW, T.w_below, h3, _, rfl, wa, ws.map (fun n : Nat => (n : Int)), rfl, by rw [← NL_ints]; exact s11.seq hw, _, _, rfl, rfl, by rw [sum_cast]; exact mulS2 (by have := hpg.sum; omega), ?_⟩
        intro x dx2 nx nd ne
        have ev : V.int ((ql : Int) * (ws.map fun n : Nat => (n : Int)).sum) = nv (ql * ws.sum) := by
          rw [sum_cast]
          push_cast
          rfl
        refine ⟨x, dx2, ab, ql * ws.sum, by rw [← ev]; rfl, upd_same, fun H10 hW k10 => ⟨rfl, ?_⟩⟩
        have s12 : Same (upd Hj ab (.lst ([V.int 0] ++ NL ((List.range S).map fun i => psum (fares.map fun f => f * ql) ws u (i + 1))))) H10 := Same.made nx nd k10
        refine q H10 x (s11.trans s12) ⟨ab, hW, ?_⟩
        rw [s12 _ _ upd_same]
        show _ = some (HO.lst (NL (withPeriod S fares ws ql u)))
        rw [withPeriod_eq hwl hz]
        rfl
def spTaken (CW : Addr) : Sp := fun vs H Q _ => ∃ (fare : Nat) (la : Addr) (x : Nat) (t : Nat × List Nat), vs = [nv fare, .ref la, nv x] ∧ WorthAt CW H la t ∧ fare ≤ 1000000 ∧ x < t.2.length ∧ Q (.bl (taken fare t x)) H
theorem ok_is_taken (F : FnIn K mg "is_taken" s_is_taken ["fare", "later", "x"]) (T : Txt K mg CW CC CP) : FnDo P w K mg base 1 "is_taken" s_is_taken ["fare", "later", "x"] (spTaken CW) := by
  refine F.doIt sc_is_taken (fun vs H Q E h => ?_) (fun f cdv A outer s H vs Q E hr h => ?_)
  · obtain ⟨fare, la, x, t, rfl, _⟩ := h
    rfl
  · obtain ⟨fare, la, x, ⟨ql, u⟩, rfl, ⟨lb, ⟨dx, fs, h1, h2, h3⟩, h4⟩, hf, hx, q⟩ := h
    have hx : x < u.length := hx
    refine ⟨_, (pss_cons (ps_if (pt_cmpR op_eq (pv 2) pe_int (nomark _)) (pss_one (ps_ret pe_bl)) pss_nil) (pss_one (ps_ret (pe_cmpR op_ge (pe_op op_mul (pv 0) (pe_fldK K rfl (pv 1) rfl)) (pe_op op_sub (pe_ix (ix_listK K rfl) (pe_fldK K rfl (pv 1) rfl) (pv 2) (fun _ _ => rfl)) (pe_ix (ix_listK K rfl) (pe_fldK K rfl (pv 1) rfl) (pe_op op_sub (pv 2) pe_int) (fun _ _ => rfl))) (nomark _))))), ?_⟩
    refine ⟨_, rfl, rfl, _, rfl, ?_⟩
    rw [eq0]
    refine ite2 (fun hc => ?_) (fun hc => ?_)
    · have hc : x = 0 := of_decide_eq_true hc
      subst hc
      exact q
    · have hc : ¬ x = 0 := fun h => hc (decide_eq_true h)
      have ax : atI (NL u) (x : Int) = some (nv (u.getD x 0)) := NL_getD hx
      have ax1 : atI (NL u) ((x : Int) - 1) = some (nv (u.getD (x - 1) 0)) := at_sub (i := 1) (by omega) hx
      refine ⟨_, rfl, _, rfl, la, CW, dx, fs, _, rfl, h1, T.cW, T.w_below, h3, _, _, rfl, rfl, mulS hf, _, rfl, la, CW, dx, fs, _, rfl, h1, T.cW, T.w_above, h2, _, rfl, lb, _, _, _, rfl, rfl, SqL.of h4, ax, _, rfl, la, CW, dx, fs, _, rfl, h1, T.cW, T.w_above, h2, _, rfl, _, _, rfl, rfl, lb, _, _, _, rfl, rfl, SqL.of h4, ax1, _, _, rfl, rfl, _, _, rfl, rfl, ?_⟩
      have e : decide ((((u.getD x 0 : Nat) : Int) - ((u.getD (x - 1) 0 : Nat) : Int)) ≤ (fare : Int) * (ql : Int)) = taken fare (ql, u) x := by
        unfold taken
        rw [decide_eq_true (show 1 ≤ x by omega), Bool.true_and]
        apply decide_eq_decide.mpr
        have e3 : (fare : Int) * (ql : Int) = ((fare * ql : Nat) : Int) := by push_cast; rfl
        rw [e3]
        show _ ↔ u.getD x 0 - u.getD (x - 1) 0 ≤ fare * ql
        omega
      rw [← e] at q
      exact q
def spSpan (K : PySem.W.Frag) (CW : Addr) : Sp := fun vs H Q _ => ∃ (fa pa : Addr) (seats : Nat) (fares : List Nat) (ps : List (List Nat)), vs = [.ref fa, .ref pa, nv seats] ∧ SqL K H fa (NL fares) ∧ WsAt K H pa ps ∧ seats ≤ 60 ∧ ps.length ≤ 20 ∧ (∀ r ∈ ps, PGood r ∧ r.length = fares.length + 1) ∧ (∀ f ∈ fares, f ≤ 1000000) ∧
  ∀ (H' : Hp) (l : Addr) (as : List Addr), Same H H' → H' l = some (.lst (as.map V.ref)) → as.length = ps.length + 1 → (∀ (j : Nat) (a : Addr), as[j]? = some a → WorthAt CW H' a (vfold seats fares (ps.take j))) → Q (.ref l) H'
theorem ok_span_worths (F : FnIn K mg "span_worths" s_span_worths ["fares", "periods", "seats"]) (T : Txt K mg CW CC CP) (G_no_worth : FnDo P w K mg base 3 "no_worth" s_no_worth ["seats"] (spNoWorth CW))
    (G_period_worth : FnDo P w K mg base 3 "period_worth" s_period_worth ["fares", "weights", "later"] (spPWorth K CW)) :
    FnDo P w K mg base 4 "span_worths" s_span_worths ["fares", "periods", "seats"] (spSpan K CW) := by
  refine F.doIt sc_span_worths (fun vs H Q E h => ?_) (fun f cdv A outer s H vs Q E hr h => ?_)
  · obtain ⟨fa, pa, seats, fares, ps, rfl, _⟩ := h
    rfl
  · obtain ⟨fa, pa, seats, fares, ps, rfl, hf, ⟨pas, hpa, hpl, hps⟩, hseats, hpn, hgood, hff, q⟩ := h
    refine ⟨_, (pss_cons (ps_set (i := 3) sc_span_worths.nd rfl (by first | exact Or.inl rfl | exact Or.inr rfl) (pe_lst (pa_cons (pe_callO G_no_worth (hr.mono (by decide)) rfl (pa_cons (pv 2) pa_nil)) pa_nil))) (pss_cons (ps_for PassesOwn.never rfl (pi_listK K rfl (pv 1)) (pg_name (i := 4) sc_span_worths.nd rfl (by first | exact Or.inl rfl | exact Or.inr rfl)) (pss_one (ps_expr (pe_bm PySem.F.plainAttrs_list PySem.F.slot_list_append PySem.F.type_list_append mt_append (pv 3) (pa_cons (pe_callO G_period_worth (hr.mono (by decide)) rfl (pa_cons (pv 0) (pa_cons (pv 4) (pa_cons (pe_ix (ix_listK K rfl) (pv 3) (pe_un un_neg pe_int) (fun _ _ => rfl)) pa_nil)))) pa_nil))))) (pss_one (ps_ret (pv 3))))), ?_⟩
    refine ⟨_, rfl, seats, rfl, hseats, fun H1 a0 s1 w1 => ⟨(by show 1 ≤ sizeLine; decide), fun wl hwl => ?_⟩⟩
    have hwlH : H wl = none := s1.free hwl
    have s2 : Same H1 (upd H1 wl (.lst [V.ref a0])) := Same.upd_new hwl
    refine ⟨_, rfl, pa, rfl, ⟨_, (s1.trans s2).seq hpa⟩, for_list (K := K) (a := pa) (xs := pas.map V.ref)
      (fun i σ H' => ∃ (as : List Addr) (v : Option V), σ = [some (.ref fa), some (.ref pa), some (nv seats), some (.ref wl), v] ∧ Same H H' ∧ H' wl = some (.lst (as.map V.ref)) ∧ as.length = i + 1 ∧ ∀ (j : Nat) (a : Addr), as[j]? = some a → WorthAt CW H' a (vfold seats fares (ps.take j)))
      ⟨[a0], none, rfl, s1.trans s2, upd_same, rfl, fun j a e => ?_⟩ (fun i σ H' _ ⟨_, _, _, s5, _⟩ => s5.seq hpa) ?_ ?_⟩
    · cases j with
      | zero =>
        cases e
        exact w1.same s2
      | succ j => simp at e
    · rintro i y σ H' hi ⟨as, v, rfl, s5, hwl', hal, hat⟩
      obtain ⟨ra, hra, rfl⟩ : ∃ ra, pas[i]? = some ra ∧ y = V.ref ra := by
        rw [List.getElem?_map] at hi
        cases e : pas[i]? with
        | none => rw [e] at hi; cases hi
        | some ra => rw [e] at hi; exact ⟨ra, rfl, (Option.some.inj hi).symm⟩
      have hil : i < ps.length := by
        have := (List.getElem?_eq_some_iff.mp hra).1
        omega
      obtain ⟨r, hr2⟩ : ∃ r, ps[i]? = some r := ⟨_, List.getElem?_eq_getElem hil⟩
      obtain ⟨hg, hgl⟩ := hgood r (List.mem_of_getElem? hr2)
      obtain ⟨a, ha⟩ : ∃ a, as[i]? = some a := ⟨_, List.getElem?_eq_getElem (by omega)⟩
      have hlast : atI (as.map V.ref) (-1) = some (V.ref a) := at_last (n := i) (by rw [List.length_map]; exact hal) (by rw [List.getElem?_map, ha]; rfl)
      have hgd : VGood seats (ps.take i).length (vfold seats fares (ps.take i)) := vfold_good fun w hw => (hgood w (List.mem_of_mem_take hw)).1
      refine ⟨_, rfl, .inl ⟨rfl, _, SqL.of hwl'⟩, _, rfl, _, rfl, _, rfl, _, rfl, wl, _, _, _, rfl, rfl, SqL.of hwl', hlast, ?_⟩
      refine ⟨fa, ra, a, seats, fares, r, vfold seats fares (ps.take i), rfl, s5.seq hf, s5.seq (hps i ra r hra hr2), hat i a ha, hseats, hgd.len, vfold_zero _ _ _, hgl, hg, hff, fun H6 x s6 wx => ?_⟩
      have hwl6 := s6 _ _ hwl'
      refine ⟨wl, _, _, rfl, rfl, hwl6, (by rw [List.length_map, hal]; show i + 1 < 16777216; omega), ?_⟩
      have nwl : ∀ b o, H6 b = some o → b ≠ wl → upd H6 wl (.lst (as.map V.ref ++ [V.ref x])) b = some o := fun b o e hb => by rw [upd_ne hb]; exact e
      have wkeep : ∀ a t, t.2.length = seats + 1 → WorthAt CW H6 a t → WorthAt CW (upd H6 wl (.lst (as.map V.ref ++ [V.ref x]))) a t := by
        rintro a t htl ⟨lc, ⟨dy, gs, e1, e2, e3⟩, e4⟩
        exact ⟨lc, ⟨dy, gs, nwl _ _ e1 (ne_of e1 hwl6 (by intro z; cases z)), e2, e3⟩, nwl _ _ e4 (ne_of e4 hwl6 fun z => NL_refs (by omega) (HO.lst.inj z))⟩
      refine ⟨as ++ [x], some (V.ref ra), rfl, ?_, ?_, ?_, ?_⟩
      · exact fun b o e => nwl b o ((s5.trans s6) b o e) (ne_of_none e hwlH)
      · rw [upd_same, List.map_append]
        rfl
      · simp [hal]
      · intro j b eb
        by_cases hj : j < i + 1
        · rw [List.getElem?_append_left (by omega)] at eb
          exact wkeep _ _ (vfold_good fun w hw => (hgood w (List.mem_of_mem_take hw)).1).len ((hat j b eb).same s6)
        · have hjle : j < (as ++ [x]).length := (List.getElem?_eq_some_iff.mp eb).1
          rw [List.length_append, hal, List.length_singleton] at hjle
          have ej : j = i + 1 := by omega
          subst ej
          rw [List.getElem?_append_right (by omega), hal, Nat.sub_self] at eb
          cases eb
          refine wkeep _ _ (vfold_good fun w hw => (hgood w (List.mem_of_mem_take hw)).1).len ?_
          rw [take_snoc hr2, vfold_snoc]
          exact wx
    · rintro σ H' ⟨as, v, rfl, s5, hwl', hal, hat⟩
      refine ⟨_, rfl, ?_⟩
      refine q H' wl as s5 hwl' ?_ hat
      rw [hal, List.length_map, hpl]
end
end Ks
namespace Ks
open PySem PySem.Spec PyProof.Rows L2
open Vbahal (Class State withPeriod zeros meanKnown)
theorem rp_hand {CP : Addr} {pl : Nat} {C' : State → List Nat → List (List Nat) → Vbahal.Call → Prop} (h : ∀ st ns rows c, CPl NAMING pl st ns rows c → CallOk c → C' st ns rows c ∧ (Vbahal.step st c).1 = st) (h0 : pl ≠ 0) {vs : List V} {H : Hp} {Q : VK} {E : XK} (x : spMut CP (CPl NAMING pl) vs H Q E) : spRP CP C' vs H Q E := by
  have x2 : spMut CP (fun st ns rows c => C' st ns rows c ∧ 0 < st.classes.length ∧ (Vbahal.step st c).1 = st) vs H Q E := mut_hand (fun st ns rows c hc hk => ⟨(h st ns rows c hc hk).1, hc.2.2.1 h0, (h st ns rows c hc hk).2⟩) x
  obtain ⟨p, nu, ro, foot, st, ns, rows, c, e, h1, h2, h3, h4, h5, h6, h7, q⟩ := spRP_mut (fun _ _ _ _ h => h.2) x2
  exact ⟨p, nu, ro, foot, st, ns, rows, c, e, h1, h2, h3, h4, h5, h6.1, h7, q⟩
theorem fares_ok {st : State} (ok : StOk st) : ∀ f ∈ st.classes.map (·.fare), f ≤ 1000000 := fun f hf => by
  obtain ⟨c, hc, rfl⟩ := List.mem_map.mp hf
  exact (ok.cls c hc).fare
theorem pers_ok {st : State} (ok : StOk st) : ∀ r ∈ st.periods, PGood r ∧ r.length = (st.classes.map (·.fare)).length + 1 := fun r hr => ⟨ok.pgood r hr, by rw [List.length_map]; exact (ok.per r hr).1⟩
theorem NL_rev (l : List Nat) : (NL l).reverse = NL l.reverse := by
  unfold NL
  rw [List.map_reverse]
section
variable {P : Program} {w : World} {K : PySem.W.Frag} {mg : Str → Option Value} {base : Heap} {CW CC CP : Addr}
theorem ok_meanknown (F : FnIn K mg "meanknown" s_meanknown ["plan", "numbers", "rows"]) (T : Txt K mg CW CC CP) (G_kept_worth : FnDo P w K mg base 4 "kept_worth" s_kept_worth ["fares", "weights", "seats", "kept"] (spKeptWorth K CW))
    (G_lowest_terms : FnDo P w K mg base 2 "lowest_terms" s_lowest_terms ["above", "below"] spLow) : FnDo P w K mg base 5 "meanknown" s_meanknown ["plan", "numbers", "rows"] (spRP CP CMeanKnown) := by
  refine F.doIt sc_meanknown (fun vs H Q E h => ?_) (fun f cdv A outer s H vs Q E hr h => ?_)
  · obtain ⟨p, nu, ro, foot, st, ns, rows, c, rfl, _⟩ := h
    rfl
  · obtain ⟨p, nu, ro, foot, st, ns, rows, c, rfl, hp, ok, hk, hnu, hro, rfl, hck, q⟩ := h
    refine ⟨_, (pss_cons (ps_set (i := 3) sc_meanknown.nd rfl (by first | exact Or.inl rfl | exact Or.inr rfl) (pe_listRevK K rfl rfl rfl rfl T.no_list T.no_reversed (pa_cons (pe_fldK K rfl (pv 0) rfl) pa_nil))) (pss_cons (ps_set (i := 4) sc_meanknown.nd rfl (by first | exact Or.inl rfl | exact Or.inr rfl) (pe_listRevK K rfl rfl rfl rfl T.no_list T.no_reversed (pa_cons (pe_fldK K rfl (pv 0) rfl) pa_nil))) (pss_cons (ps_set (i := 5) sc_meanknown.nd rfl (by first | exact Or.inl rfl | exact Or.inr rfl) (pe_callO G_kept_worth (hr.mono (by decide)) rfl (pa_cons (pv 3) (pa_cons (pv 4) (pa_cons (pe_fldK K rfl (pv 0) rfl) (pa_cons (pe_op op_rep (pe_lst (pa_cons pe_int pa_nil)) (pe_callB (call_lenK K rfl) (by rfl) T.no_len PySem.boot_len (pa_cons (pv 3) pa_nil))) pa_nil)))))) (pss_one (ps_ret (pe_op op_cat (pe_lst (pa_cons pe_int pa_nil)) (pe_callO G_lowest_terms (hr.mono (by decide)) rfl (pa_cons (pe_ix (ix_listK K rfl) (pe_fldK K rfl (pv 5) rfl) (pe_fldK K rfl (pv 0) rfl) (fun _ _ => rfl)) (pa_cons (pe_fldK K rfl (pv 5) rfl) pa_nil))))))))), ?_⟩
    obtain ⟨pa, pas, foot0, rfl, hp0, hper, hpa1, hpa2⟩ := id hp.ex
    obtain ⟨dx, fs, fa, wa, was, rfl, h1, h2, h3, h4, h5, hq, h6, h7, h8, h9, h10⟩ := id hp0.ex
    have hstep : (Vbahal.step st .meanKnown).2 = Vbahal.ok (Vbahal.frac ((meanKnown st.seats st.classes).2.getD st.seats 0) (meanKnown st.seats st.classes).1) := by
      show (Vbahal.has st 0 _).2 = _
      rw [has_ok hk]
    rw [hstep, ok_NL] at q
    have hlen := ok.len
    refine ⟨_, rfl, p, CP, dx, fs, _, rfl, h1, T.cP, T.p_fares, h4, fa, _, rfl, SqL.of h6, fun f1 hf1 => ?_⟩
    have s1 : Same H (upd H f1 (.lst (NL (st.classes.map (·.fare))).reverse)) := Same.upd_new hf1
    refine ⟨_, rfl, p, CP, dx, fs, _, rfl, s1 _ _ h1, T.cP, T.p_weights, h5, wa, _, rfl, SqL.of (s1 _ _ h7), fun w1 hw1 => ?_⟩
    have s2 : Same _ (upd (upd H f1 (.lst (NL (st.classes.map (·.fare))).reverse)) w1 (.lst (was.map V.ref).reverse)) := Same.upd_new hw1
    have s12 := s1.trans s2
    have hf1' : upd (upd H f1 (.lst (NL (st.classes.map (·.fare))).reverse)) w1 (.lst (was.map V.ref).reverse) f1 = some (.lst (NL (st.classes.reverse.map (·.fare)))) := by
      rw [s2 _ _ upd_same, NL_rev, List.map_reverse]
    have hw1' : upd (upd H f1 (.lst (NL (st.classes.map (·.fare))).reverse)) w1 (.lst (was.map V.ref).reverse) w1 = some (.lst (was.reverse.map V.ref)) := by
      rw [upd_same, List.map_reverse]
    generalize upd (upd H f1 (.lst (NL (st.classes.map (·.fare))).reverse)) w1 (.lst (was.map V.ref).reverse) = H2 at *
    refine ⟨_, rfl, _, rfl, _, rfl, p, CP, dx, fs, _, rfl, s12 _ _ h1, T.cP, T.p_seats, h3, (by show 1 ≤ sizeLine; decide), fun z0 hz0 => ?_⟩
    have s3 : Same H2 (upd H2 z0 (.lst [V.int 0])) := Same.upd_new hz0
    refine ⟨_, rfl, f1, _, rfl, .inl (SqL.of (s3 _ _ hf1')), z0, _, _, rfl, rfl, upd_same, by omega, ?_, ?_, fun so hso => ?_⟩
    · rw [NL_len, List.length_map, List.length_reverse]
      omega
    · rw [NL_len, List.length_map, List.length_reverse, Int.toNat_natCast]
      show 1 * st.classes.length ≤ 16777216
      omega
    rw [NL_len, List.length_map, List.length_reverse, Int.toNat_natCast, rep_flat]
    have s4 : Same (upd H2 z0 (.lst [V.int 0])) (upd (upd H2 z0 (.lst [V.int 0])) so (.lst (NL (List.replicate st.classes.length 0)))) := Same.upd_new hso
    have s34 := s3.trans s4
    have erep : List.replicate st.classes.length 0 = 0 :: List.replicate (st.classes.length - 1) 0 := by
      obtain ⟨m, hm⟩ : ∃ m, st.classes.length = m + 1 := ⟨st.classes.length - 1, by omega⟩
      rw [hm]
      rfl
    refine ⟨f1, w1, so, st.seats, st.classes.reverse, List.replicate (st.classes.length - 1) 0, rfl, SqL.of (s34 _ _ hf1'), ⟨was.reverse, SqL.of (s34 _ _ hw1'), ?_, ?_⟩, SqL.of ?_, ok.seats, ?_, ?_, fun c hc => (ok.cls c (List.mem_reverse.mp hc)).ok, fun H4 l4 s5 hW => ?_⟩
    · rw [List.length_map, List.length_reverse, List.length_reverse, h8]
    · intro j a ws ea ew
      have hj : j < was.length := by
        have := (List.getElem?_eq_some_iff.mp ea).1
        rw [List.length_reverse] at this
        exact this
      rw [List.getElem?_reverse hj] at ea
      rw [List.getElem?_map, List.getElem?_reverse (by omega), ← h8] at ew
      cases ec : st.classes[was.length - 1 - j]? with
      | none => rw [ec] at ew; cases ew
      | some c =>
        rw [ec] at ew
        cases ew
        exact SqL.of ((s12.trans s34) _ _ (h9 _ a c ea ec))
    · rw [upd_same, erep]
    · rw [List.length_reverse]
      omega
    · rw [List.length_replicate, List.length_reverse]
      omega
    · rw [mk_eq _ _ (rep_getD _)] at hW
      obtain ⟨m1, m2, m3⟩ := meanKnown_good st.seats st.classes ok.cls
      generalize ht : meanKnown st.seats st.classes = t at *
      obtain ⟨la, ⟨dw, gs, g1, g2, g3⟩, g4⟩ := hW
      have s15 := (s12.trans s34).trans s5
      refine ⟨(by show 1 ≤ sizeLine; decide), fun l0 hl0 => ?_⟩
      have s6 : Same H4 (upd H4 l0 (.lst [V.int 0])) := Same.upd_new hl0
      refine ⟨_, rfl, l4, CW, dw, gs, _, rfl, s6 _ _ g1, T.cW, T.w_above, g2, _, rfl, p, CP, dx, fs, _, rfl, s6 _ _ (s15 _ _ h1), T.cP, T.p_seats, h3, la, _, _, _, rfl, rfl, SqL.of (s6 _ _ g4), NL_getD (by omega), _, rfl, l4, CW, dw, gs, _, rfl, s6 _ _ g1, T.cW, T.w_below, g3, ?_⟩
      refine ⟨t.2.getD st.seats 0, t.1, rfl, m1, unit_small m2 hlen, fun H6 l6 s7 hn6 hl6 => ?_⟩
      refine ⟨l0, l6, _, _, rfl, rfl, s7 _ _ upd_same, hl6, (by show 3 ≤ sizeLine; decide), fun l7 hl7 => ?_⟩
      refine q _ l7 (((s15.trans s6).trans s7).trans (Same.upd_new hl7)) (((s15.trans s6).trans s7).free hl7) ?_
      rw [upd_same]
      rfl
theorem wsum_small {c : Class} (g : CGood c) : ((c.weights.sum : Nat) : Int) < 2 ^ 9000 := by
  have := g.sum
  exact Int.lt_of_le_of_lt (b := 21000) (by omega) (by decide +kernel)
theorem ok_chance (F : FnIn K mg "chance" s_chance ["plan", "numbers", "rows"]) (T : Txt K mg CW CC CP) (G_lowest_terms : FnDo P w K mg base 2 "lowest_terms" s_lowest_terms ["above", "below"] spLow) : FnDo P w K mg base 3 "chance" s_chance ["plan", "numbers", "rows"] (spRP CP CChance) := by
  refine F.doIt sc_chance (fun vs H Q E h => ?_) (fun f cdv A outer s H vs Q E hr h => ?_)
  · obtain ⟨p, nu, ro, foot, st, ns, rows, c, rfl, _⟩ := h
    rfl
  · obtain ⟨p, nu, ro, foot, st, ns, rows, c, rfl, hp, ok, hk, hnu, hro, ⟨i, n, rfl, hi, rfl⟩, hck, q⟩ := h
    refine ⟨_, (pss_cons (ps_set (i := 3) sc_chance.nd rfl (by first | exact Or.inl rfl | exact Or.inr rfl) (pe_ix (ix_listK K rfl) (pe_fldK K rfl (pv 0) rfl) (pe_ix (ix_listK K rfl) (pv 1) pe_int (fun _ _ => rfl)) (fun _ _ => rfl))) (pss_one (ps_ret (pe_op op_cat (pe_lst (pa_cons pe_int pa_nil)) (pe_callO G_lowest_terms (hr.mono (by decide)) rfl (pa_cons (pe_callB (cr_sumK K rfl rfl) (by rfl) T.no_sum boot_sum (pa_cons (pe_slice (sl_listK K rfl) (pv 3) (po_some (pe_ix (ix_listK K rfl) (pv 1) pe_int (fun _ _ => rfl))) po_none) pa_nil)) (pa_cons (pe_callB (cr_sumK K rfl rfl) (by rfl) T.no_sum boot_sum (pa_cons (pv 3) pa_nil)) pa_nil))))))), ?_⟩
    obtain ⟨pa, pas, foot0, rfl, hp0, hper, hpa1, hpa2⟩ := id hp.ex
    obtain ⟨dx, fs, fa, wa, was, rfl, h1, h2, h3, h4, h5, hq, h6, h7, h8, h9, h10⟩ := id hp0.ex
    obtain ⟨c, hc, ew, g⟩ := weightsOf_good ok hi
    obtain ⟨a, ha⟩ : ∃ a, was[i]? = some a := ⟨_, List.getElem?_eq_getElem (by omega)⟩
    have haa : H a = some (.lst (NL c.weights)) := h9 i a c ha hc
    have hstep : (Vbahal.step st (.chance i n)).2 = Vbahal.ok (Vbahal.frac (c.weights.drop n).sum c.weights.sum) := by
      show (Vbahal.has st i _).2 = _
      rw [has_ok hi, ew]
    rw [hstep, ok_NL] at q
    refine ⟨_, rfl, p, CP, dx, fs, _, rfl, h1, T.cP, T.p_weights, h5, _, rfl, nu, _, _, _, rfl, rfl, SqL.of hnu, NL_at (l := [i, n]) (i := 0) rfl, wa, _, _, V.ref a, rfl, rfl, SqL.of h7, atI_nat (by rw [List.getElem?_map, ha]; rfl), ?_⟩
    refine ⟨(by show 1 ≤ sizeLine; decide), fun l0 hl0 => ?_⟩
    have s1 : Same H (upd H l0 (.lst [V.int 0])) := Same.upd_new hl0
    refine ⟨_, rfl, _, rfl, nu, _, _, _, rfl, rfl, SqL.of (s1 _ _ hnu), NL_at (l := [i, n]) (i := 1) rfl, _, rfl, a, _, rfl, SqL.of (s1 _ _ haa), fun c1 hc1 => ?_⟩
    have ecut : cutV (NL c.weights) (some (n : Int)) none = NL (c.weights.drop n) := by rw [cut_from, NL_drop]
    rw [ecut]
    have s2 : Same (upd H l0 (.lst [V.int 0])) (upd (upd H l0 (.lst [V.int 0])) c1 (.lst (NL (c.weights.drop n)))) := Same.upd_new hc1
    have s12 := s1.trans s2
    unfold tNil
    refine sumNL (SqL.of upd_same) ?_
    refine ⟨_, rfl, ?_⟩
    refine sumNL (SqL.of (s12 _ _ haa)) ?_
    refine ⟨(c.weights.drop n).sum, c.weights.sum, rfl, g.pos, wsum_small g, fun H3 l3 s3 hn3 hl3 => ?_⟩
    refine ⟨l0, l3, _, _, rfl, rfl, s3 _ _ (s2 _ _ upd_same), hl3, (by show 3 ≤ sizeLine; decide), fun l4 hl4 => ?_⟩
    refine q _ l4 ((s12.trans s3).trans (Same.upd_new hl4)) ((s12.trans s3).free hl4) ?_
    rw [upd_same]
    rfl
theorem ok_asked (F : FnIn K mg "asked" s_asked ["plan", "numbers", "rows"]) (T : Txt K mg CW CC CP) (G_lowest_terms : FnDo P w K mg base 2 "lowest_terms" s_lowest_terms ["above", "below"] spLow) : FnDo P w K mg base 3 "asked" s_asked ["plan", "numbers", "rows"] (spRP CP CAsked) := by
  refine F.doIt sc_asked (fun vs H Q E h => ?_) (fun f cdv A outer s H vs Q E hr h => ?_)
  · obtain ⟨p, nu, ro, foot, st, ns, rows, c, rfl, _⟩ := h
    rfl
  · obtain ⟨p, nu, ro, foot, st, ns, rows, c, rfl, hp, ok, hk, hnu, hro, ⟨i, rfl, hi, rfl⟩, hck, q⟩ := h
    refine ⟨_, (pss_cons (ps_set (i := 3) sc_asked.nd rfl (by first | exact Or.inl rfl | exact Or.inr rfl) (pe_ix (ix_listK K rfl) (pe_fldK K rfl (pv 0) rfl) (pe_ix (ix_listK K rfl) (pv 1) pe_int (fun _ _ => rfl)) (fun _ _ => rfl))) (pss_cons (ps_set (i := 4) sc_asked.nd rfl (by first | exact Or.inl rfl | exact Or.inr rfl) (pe_callB (cr_sumK K rfl rfl) (by rfl) T.no_sum boot_sum (pa_cons (pe_lc rfl sc_asked.nd (pi_enumK K rfl rfl T.no_enumerate (pa_cons (pv 3) pa_nil)) (blkOk_by (own := [("d", 5), ("weight", 6)]) rfl) (fun _ _ _ _ _ => (pg_tupK K (n := 2) rfl rfl (pgs_cons (pg_name (i := 5) sc_asked.nd rfl (by first | exact Or.inl rfl | exact Or.inr rfl)) (pgs_cons (pg_name (i := 6) sc_asked.nd rfl (by first | exact Or.inl rfl | exact Or.inr rfl)) pgs_nil)))) (fun _ _ _ _ _ => pts_nil) (fun _ _ _ _ _ => (pe_op op_mul (pv 5) (pv 6)))) pa_nil))) (pss_one (ps_ret (pe_op op_cat (pe_lst (pa_cons pe_int pa_nil)) (pe_callO G_lowest_terms (hr.mono (by decide)) rfl (pa_cons (pv 4) (pa_cons (pe_callB (cr_sumK K rfl rfl) (by rfl) T.no_sum boot_sum (pa_cons (pv 3) pa_nil)) pa_nil)))))))), ?_⟩
    obtain ⟨pa, pas, foot0, rfl, hp0, hper, hpa1, hpa2⟩ := id hp.ex
    obtain ⟨dx, fs, fa, wa, was, rfl, h1, h2, h3, h4, h5, hq, h6, h7, h8, h9, h10⟩ := id hp0.ex
    obtain ⟨c, hc, ew, g⟩ := weightsOf_good ok hi
    obtain ⟨a, ha⟩ : ∃ a, was[i]? = some a := ⟨_, List.getElem?_eq_getElem (by omega)⟩
    have haa : H a = some (.lst (NL c.weights)) := h9 i a c ha hc
    have hstep : (Vbahal.step st (.asked i)).2 = Vbahal.ok (Vbahal.frac ((c.weights.zipIdx.map fun p => p.1 * p.2).sum) c.weights.sum) := by
      show (Vbahal.has st i _).2 = _
      rw [has_ok hi, ew]
    rw [hstep, ok_NL] at q
    have hwl : c.weights.length ≤ 21 := g.len
    refine ⟨_, rfl, p, CP, dx, fs, _, rfl, h1, T.cP, T.p_weights, h5, _, rfl, nu, _, _, _, rfl, rfl, SqL.of hnu, NL_at (l := [i]) (i := 0) rfl, wa, _, _, V.ref a, rfl, rfl, SqL.of h7, atI_nat (by rw [List.getElem?_map, ha]; rfl), ?_⟩
    refine ⟨_, rfl, a, _, rfl, SqL.of haa, ?_⟩
    intro D hD
    refine lc_enum (K := K) (a := a) (xs := NL c.weights) (fun j Hj => Same H Hj ∧ Hj D = some (.lst (NL ((c.weights.zipIdx.map fun p => p.1 * p.2).take j)))) ⟨Same.upd_new hD, upd_same⟩ (fun j Hj _ ⟨s5, _⟩ => SqL.of (s5 _ _ haa)) ?_ ?_
    · rintro j y Tt Hj hj hT ⟨s5, hDj⟩
      obtain ⟨n, hn, rfl⟩ := NL_get hj
      have hjl : j < c.weights.length := (List.getElem?_eq_some_iff.mp hn).1
      have s6 : Same Hj (upd Hj Tt (.tup [V.int (j : Nat), nv n])) := Same.upd_new hT
      refine ⟨Tt, _, rfl, .inl (.inl upd_same), rfl, _, _, rfl, _, _, rfl, rfl, rfl, tYes_i ?_⟩
      refine ⟨_, rfl, _, rfl, _, _, rfl, rfl, mulS (by omega), _, s6 _ _ hDj, ?_, ?_, ?_⟩
      · rw [NL_len, List.length_take]
        show min j _ < 16777216
        omega
      · exact fun b o e => by rw [upd_ne (ne_of_none e hD)]; exact s6 _ _ (s5 _ _ e)
      · have ep : (c.weights.zipIdx.map fun p => p.1 * p.2)[j]? = some (n * j) := by
          rw [List.getElem?_map, List.getElem?_zipIdx, hn]
          show some (n * (0 + j)) = _
          rw [Nat.zero_add]
        rw [upd_same, take_snoc ep, NL_app]
        show some (HO.lst (_ ++ [V.int ((j : Int) * (n : Int))])) = some (HO.lst (_ ++ [V.int ((n * j : Nat) : Int)]))
        rw [Int.mul_comm]
        push_cast
        all_goals rfl
    · rintro Hj ⟨s5, hDj⟩
      have el : (c.weights.zipIdx.map fun p => p.1 * p.2).length = c.weights.length := by rw [List.length_map, List.length_zipIdx]
      rw [NL_len, ← el, List.take_length] at hDj
      unfold tNil
      refine sumNL (SqL.of hDj) ?_
      refine ⟨(by show 1 ≤ sizeLine; decide), fun l0 hl0 => ?_⟩
      have s1 : Same Hj (upd Hj l0 (.lst [V.int 0])) := Same.upd_new hl0
      have s15 := s5.trans s1
      refine ⟨_, rfl, _, rfl, ?_⟩
      refine sumNL (SqL.of (s15 _ _ haa)) ?_
      refine ⟨(c.weights.zipIdx.map fun p => p.1 * p.2).sum, c.weights.sum, rfl, g.pos, wsum_small g, fun H3 l3 s3 hn3 hl3 => ?_⟩
      refine ⟨l0, l3, _, _, rfl, rfl, s3 _ _ upd_same, hl3, (by show 3 ≤ sizeLine; decide), fun l4 hl4 => ?_⟩
      refine q _ l4 ((s15.trans s3).trans (Same.upd_new hl4)) ((s15.trans s3).free hl4) ?_
      rw [upd_same]
      rfl
theorem ok_shown (F : FnIn K mg "shown" s_shown ["plan", "numbers", "rows"]) (T : Txt K mg CW CC CP) : FnDo P w K mg base 1 "shown" s_shown ["plan", "numbers", "rows"] (spRP CP CShown) := by
  refine F.doIt sc_shown (fun vs H Q E h => ?_) (fun f cdv A outer s H vs Q E hr h => ?_)
  · obtain ⟨p, nu, ro, foot, st, ns, rows, c, rfl, _⟩ := h
    rfl
  · obtain ⟨p, nu, ro, foot, st, ns, rows, c, rfl, hp, ok, hk, hnu, hro, rfl, hck, q⟩ := h
    refine ⟨_, (pss_one (ps_ret (pe_op op_cat (pe_lst (pa_cons pe_int (pa_cons (pe_fldK K rfl (pv 0) rfl) (pa_cons (pe_callB (call_lenK K rfl) (by rfl) T.no_len PySem.boot_len (pa_cons (pe_fldK K rfl (pv 0) rfl) pa_nil)) (pa_cons (pe_callB (call_lenK K rfl) (by rfl) T.no_len PySem.boot_len (pa_cons (pe_fldK K rfl (pv 0) rfl) pa_nil)) pa_nil))))) (pe_fldK K rfl (pv 0) rfl)))), ?_⟩
    obtain ⟨pa, pas, foot0, rfl, hp0, hper, hpa1, hpa2⟩ := id hp.ex
    obtain ⟨dx, fs, fa, wa, was, rfl, h1, h2, h3, h4, h5, hq, h6, h7, h8, h9, h10⟩ := id hp0.ex
    have hstep : (Vbahal.step st .shown).2 = Vbahal.ok ([st.seats, st.classes.length, st.periods.length] ++ st.classes.map (·.fare)) := by
      show (Vbahal.has st 0 _).2 = _
      rw [has_ok hk]
    rw [hstep, ok_NL] at q
    have hlen := ok.len
    refine ⟨_, rfl, p, CP, dx, fs, _, rfl, h1, T.cP, T.p_seats, h3, _, rfl, p, CP, dx, fs, _, rfl, h1, T.cP, T.p_fares, h4, fa, _, rfl, .inl (SqL.of h6), _, rfl, p, CP, dx, fs, _, rfl, h1, T.cP, T.p_periods, hq, pa, _, rfl, .inl (SqL.of hper.lst), (by show 4 ≤ sizeLine; decide), fun l0 hl0 => ?_⟩
    have s1 := Same.upd_new (o := .lst [V.int 0, nv st.seats, V.int ((NL (st.classes.map (·.fare))).length : Nat), V.int ((pas.map V.ref).length : Nat)]) hl0
    refine ⟨_, rfl, p, CP, dx, fs, _, rfl, s1 _ _ h1, T.cP, T.p_fares, h4, l0, fa, _, _, rfl, rfl, upd_same, s1 _ _ h6, ?_, fun l1 hl1 => ?_⟩
    · rw [NL_len, List.length_map]
      show 4 + st.classes.length ≤ 16777216
      omega
    refine q _ l1 (s1.trans (Same.upd_new hl1)) (s1.free hl1) ?_
    rw [upd_same, NL_len, List.length_map, List.length_map, hper.len]
    rfl
theorem ok_clear (F : FnIn K mg "clear" s_clear ["plan", "numbers", "rows"]) (T : Txt K mg CW CC CP) : FnDo P w K mg base 1 "clear" s_clear ["plan", "numbers", "rows"] (spMut CP CClear) := by
  refine F.doIt sc_clear (fun vs H Q E h => ?_) (fun f cdv A outer s H vs Q E hr h => ?_)
  · obtain ⟨p, nu, ro, foot, as, st, ns, rows, c, rfl, _⟩ := h
    rfl
  · obtain ⟨p, nu, ro, foot, as, st, ns, rows, c, rfl, hp, ok, hnu, hro, hal, hat, hnf, ⟨hk, rfl⟩, hck, q⟩ := h
    refine ⟨_, (pss_cons (ps_fld (pv 0) (pe_lst pa_nil) rfl) (pss_one (ps_ret (pe_lst (pa_cons pe_int pa_nil))))), ?_⟩
    obtain ⟨pa, pas, foot0, rfl, hp0, hper, hpa1, hpa2⟩ := id hp.ex
    obtain ⟨dx, fs, fa, wa, was, rfl, h1, h2, h3, h4, h5, hq, h6, h7, h8, h9, h10⟩ := id hp0.ex
    have hstep : Vbahal.step st .clear = ({ st with periods := [] }, [0]) := by
      show Vbahal.has st 0 _ = _
      rw [has_ok hk]
    rw [hstep] at q
    refine ⟨Nat.zero_le _, fun pn hpn => ?_⟩
    have s1 : Same H (upd H pn (.lst [])) := Same.upd_new hpn
    refine ⟨_, rfl, p, CP, dx, fs, rfl, s1 _ _ h1, T.cP, T.p_periods, by omega, ?_⟩
    refine ⟨(by show 1 ≤ sizeLine; decide), fun l hl => ?_⟩
    have npp : pn ≠ p := fun e => by rw [e, h1] at hpn; cases hpn
    have hlp : l ≠ p := fun e => by rw [e, upd_same] at hl; cases hl
    rw [upd_ne hlp] at hl
    have hln : l ≠ pn := fun e => by rw [e, upd_same] at hl; cases hl
    have hlH : H l = none := s1.free hl
    have k9 : ∀ b o, H b = some o → b ≠ p → upd (upd (upd H pn (.lst [])) p (.ins CP dx (putF "periods" (V.ref pn) fs))) l (.lst [V.int 0]) b = some o := fun b o e hb => by
      rw [upd_ne (ne_of_none e hlH), upd_ne hb, upd_ne (ne_of_none e hpn)]
      exact e
    obtain ⟨n1, n2⟩ := List.nodup_cons.mp h10
    have npf : fa ≠ p := ne_of h6 h1 (by intro z; cases z)
    have npw : wa ≠ p := ne_of h7 h1 (by intro z; cases z)
    refine q _ l ((p :: fa :: wa :: was) ++ [pn]) ⟨pn, [], p :: fa :: wa :: was, rfl, ⟨dx, putF "periods" (V.ref pn) fs, fa, wa, was, rfl, ?_, ?_, ?_, ?_, ?_, ?_, k9 _ _ h6 npf, k9 _ _ h7 npw, h8, ?_, h10⟩, ⟨?_, rfl, fun j a r e => by simp at e⟩, by simp, ?_⟩ (fun b o e hb => k9 b o e fun z => hb (by simp [z])) (fun b hb => ?_) hlH upd_same ?_
    · rw [upd_ne (fun e => hlp e.symm), upd_same]
    · rw [len_putF_in _ _ _ _ hq]
      exact h2
    · rw [lookup_putF, if_neg (by decide +kernel)]
      exact h3
    · rw [lookup_putF, if_neg (by decide +kernel)]
      exact h4
    · rw [lookup_putF, if_neg (by decide +kernel)]
      exact h5
    · rw [lookup_putF, if_pos rfl]
    · intro j a c e1 e2
      have := h9 j a c e1 e2
      exact k9 _ _ this (ne_of this h1 (by intro z; cases z))
    · rw [upd_ne (fun e => hln e.symm), upd_ne npp, upd_same]
      rfl
    · intro b hb m
      have e : b = pn := by simpa using hb
      subst e
      exact hp0.fresh hpn m
    · rcases List.mem_append.mp hb with hb | hb
      · exact .inl (List.mem_append_left _ hb)
      · have e : b = pn := by simpa using hb
        exact .inr (.inr (by rw [e]; exact hpn))
    · intro hb
      rcases List.mem_append.mp hb with hb | hb
      · exact hp0.fresh hlH hb
      · exact hln (by simpa using hb)
theorem eqN {a b : Nat} : decide (V.int (a : Int) = V.int (b : Int)) = decide (a = b) := by
  by_cases e : a = b
  · subst e
    simp
  · have : ¬ V.int (a : Int) = V.int (b : Int) := fun z => e (by injection z with z; omega)
    simp [this, e]
theorem ok_period (F : FnIn K mg "period" s_period ["plan", "numbers", "rows"]) (T : Txt K mg CW CC CP) (g_MOST_PERIODS : ∃ t, mg "MOST_PERIODS" = some (.int 20 t)) : FnDo P w K mg base 1 "period" s_period ["plan", "numbers", "rows"] (spMut CP CPeriod) := by
  refine F.doIt sc_period (fun vs H Q E h => ?_) (fun f cdv A outer s H vs Q E hr h => ?_)
  · obtain ⟨p, nu, ro, foot, as, st, ns, rows, c, rfl, _⟩ := h
    rfl
  · obtain ⟨p, nu, ro, foot, as, st, ns, rows, c, rfl, hp, ok, hnu, hro, hal, hat, hnf, ⟨ws, hrows, hk, rfl⟩, hck, q⟩ := h
    refine ⟨_, (pss_cons (ps_set (i := 3) sc_period.nd rfl (by first | exact Or.inl rfl | exact Or.inr rfl) (pe_ix (ix_listK K rfl) (pv 2) pe_int (fun _ _ => rfl))) (pss_cons (ps_if (pt_cmpR op_ne (pe_callB (call_lenK K rfl) (by rfl) T.no_len PySem.boot_len (pa_cons (pv 3) pa_nil)) (pe_op op_add (pe_callB (call_lenK K rfl) (by rfl) T.no_len PySem.boot_len (pa_cons (pe_fldK K rfl (pv 0) rfl) pa_nil)) pe_int) (nomark _)) (pss_one (ps_ret (pe_lst (pa_cons (pe_un un_neg pe_int) pa_nil)))) pss_nil) (pss_cons (ps_if (pt_cmpR op_eq (pe_callB (cr_sumK K rfl rfl) (by rfl) T.no_sum boot_sum (pa_cons (pv 3) pa_nil)) pe_int (nomark _)) (pss_one (ps_ret (pe_lst (pa_cons (pe_un un_neg pe_int) pa_nil)))) pss_nil) (pss_cons (ps_if (pt_cmpR op_eq (pe_callB (call_lenK K rfl) (by rfl) T.no_len PySem.boot_len (pa_cons (pe_fldK K rfl (pv 0) rfl) pa_nil)) (pe_globI rfl g_MOST_PERIODS) (nomark _)) (pss_one (ps_ret (pe_lst (pa_cons (pe_un un_neg pe_int) pa_nil)))) pss_nil) (pss_cons (ps_expr (pe_bm PySem.F.plainAttrs_list PySem.F.slot_list_append PySem.F.type_list_append mt_append (pe_fldK K rfl (pv 0) rfl) (pa_cons (pv 3) pa_nil))) (pss_one (ps_ret (pe_lst (pa_cons pe_int (pa_cons (pe_callB (call_lenK K rfl) (by rfl) T.no_len PySem.boot_len (pa_cons (pe_fldK K rfl (pv 0) rfl) pa_nil)) pa_nil)))))))))), ?_⟩
    obtain ⟨r, rfl, hrw⟩ := one_row hal hat hrows
    obtain ⟨pa, pas, foot0, rfl, hp0, hper, hpa1, hpa2⟩ := id hp.ex
    obtain ⟨dx, fs, fa, wa, was, rfl, h1, h2, h3, h4, h5, hq, h6, h7, h8, h9, h10⟩ := id hp0.ex
    have hstep : Vbahal.step st (.period ws) = if ws.length ≠ st.classes.length + 1 then (st, [-7]) else if ws.sum = 0 then (st, [-5]) else if 20 ≤ st.periods.length then (st, [-6]) else ({ st with periods := st.periods ++ [ws] }, Vbahal.ok [st.periods.length + 1]) := by
      show Vbahal.has st 0 _ = _
      rw [has_ok hk]
    rw [hstep] at q
    have hplen := ok.plen
    have hrf := hnf r (by simp)
    refine ⟨_, rfl, ro, _, _, V.ref r, rfl, rfl, SqL.of hro, atI_nat (j := 0) rfl, ?_⟩
    refine ⟨_, rfl, r, _, rfl, .inl (SqL.of hrw), _, rfl, p, CP, dx, fs, _, rfl, h1, T.cP, T.p_fares, h4, fa, _, rfl, .inl (SqL.of h6), _, _, rfl, rfl, rfl, _, rfl, ?_⟩
    have el : (((NL (st.classes.map (·.fare))).length : Nat) : Int) + 1 = ((st.classes.length + 1 : Nat) : Int) := by rw [NL_len, List.length_map]; omega
    show (if (!decide (V.int (((NL ws).length : Nat) : Int) = V.int ((((NL (st.classes.map (·.fare))).length : Nat) : Int) + 1))) = true then _ else _)
    rw [el, NL_len, ne_len]
    refine ite2 (fun hc => ?_) (fun hc => ?_)
    · have hc := of_decide_eq_true hc
      rw [if_pos hc] at q
      refine ⟨_, rfl, (by show 1 ≤ sizeLine; decide), fun l hl => ?_⟩
      exact q _ l _ (hp.same (Same.upd_new hl)) (fun b o e _ => Same.upd_new hl b o e) (fun b hb => .inl hb) hl upd_same (hp.fresh hl)
    have hc : ws.length = st.classes.length + 1 := by
      by_cases e : ws.length = st.classes.length + 1
      · exact e
      · exact absurd (decide_eq_true e) hc
    rw [if_neg (by simp [hc])] at q
    refine ⟨_, rfl, ?_⟩
    unfold tNil
    refine sumNL (SqL.of hrw) ⟨rfl, _, rfl, ?_⟩
    rw [eq0]
    refine ite2 (fun hc2 => ?_) (fun hc2 => ?_)
    · rw [if_pos (of_decide_eq_true hc2)] at q
      refine ⟨_, rfl, (by show 1 ≤ sizeLine; decide), fun l hl => ?_⟩
      exact q _ l _ (hp.same (Same.upd_new hl)) (fun b o e _ => Same.upd_new hl b o e) (fun b hb => .inl hb) hl upd_same (hp.fresh hl)
    rw [if_neg (fun h => hc2 (decide_eq_true h))] at q
    refine ⟨_, rfl, p, CP, dx, fs, _, rfl, h1, T.cP, T.p_periods, hq, pa, _, rfl, .inl (SqL.of hper.lst), rfl, _, rfl, ?_⟩
    show (if decide (V.int (((pas.map V.ref).length : Nat) : Int) = V.int ((20 : Nat) : Int)) = true then _ else _)
    rw [List.length_map, hper.len, eqN]
    refine ite2 (fun hc3 => ?_) (fun hc3 => ?_)
    · have hc3 : st.periods.length = 20 := of_decide_eq_true hc3
      rw [if_pos (by omega)] at q
      refine ⟨_, rfl, (by show 1 ≤ sizeLine; decide), fun l hl => ?_⟩
      exact q _ l _ (hp.same (Same.upd_new hl)) (fun b o e _ => Same.upd_new hl b o e) (fun b hb => .inl hb) hl upd_same (hp.fresh hl)
    have hc3 : ¬ st.periods.length = 20 := fun h => hc3 (decide_eq_true h)
    rw [if_neg (by omega)] at q
    refine ⟨_, rfl, p, CP, dx, fs, _, rfl, h1, T.cP, T.p_periods, hq, .inl ⟨rfl, _, SqL.of hper.lst⟩, _, rfl, pa, _, _, rfl, rfl, hper.lst, (by rw [List.length_map, hper.len]; show st.periods.length < 16777216; omega), ?_⟩
    have npa : ∀ b ∈ p :: fa :: wa :: was, b ≠ pa := fun b hb e => hpa2 pa (by simp) (by rw [← e]; exact hb)
    have k1 : ∀ b o, H b = some o → b ≠ pa → upd H pa (.lst (pas.map V.ref ++ [V.ref r])) b = some o := fun b o e hb => by rw [upd_ne hb]; exact e
    refine ⟨_, rfl, p, CP, dx, fs, _, rfl, k1 _ _ h1 (npa p (by simp)), T.cP, T.p_periods, hq, pa, _, rfl, .inl (SqL.of upd_same), (by show 2 ≤ sizeLine; decide), fun l hl => ?_⟩
    have hlpa : l ≠ pa := fun e => by rw [e, upd_same] at hl; cases hl
    have hlH : H l = none := by rw [upd_ne hlpa] at hl; exact hl
    have hrl : r ≠ l := fun e => by rw [← e, hrw] at hlH; cases hlH
    have hrpa : r ≠ pa := fun e => hrf (by simp [e])
    have k9 : ∀ b o, H b = some o → b ≠ pa → upd (upd H pa (.lst (pas.map V.ref ++ [V.ref r]))) l (.lst [V.int 0, V.int ((pas.map V.ref ++ [V.ref r]).length : Nat)]) b = some o := fun b o e hb => by
      rw [upd_ne (ne_of_none e hlH)]
      exact k1 b o e hb
    refine q _ l ((p :: fa :: wa :: was) ++ pa :: (pas ++ [r])) ⟨pa, pas ++ [r], p :: fa :: wa :: was, rfl, ⟨dx, fs, fa, wa, was, rfl, k9 _ _ h1 (npa p (by simp)), h2, h3, h4, h5, hq, k9 _ _ h6 (npa fa (by simp)), k9 _ _ h7 (npa wa (by simp)), h8, fun j a c e1 e2 => k9 _ _ (h9 j a c e1 e2) (npa a (by simp [List.mem_of_getElem? e1])), h10⟩, ⟨?_, ?_, ?_⟩, ?_, ?_⟩ (fun b o e hb => k9 b o e fun z => hb (by simp [z])) (fun b hb => ?_) hlH ?_ ?_
    · rw [upd_ne (fun e => hlpa e.symm), upd_same, List.map_append]
      rfl
    · show (pas ++ [r]).length = (st.periods ++ [ws]).length
      rw [List.length_append, List.length_append, hper.len]
      rfl
    · intro j a x e1 e2
      have e2 : (st.periods ++ [ws])[j]? = some x := e2
      by_cases hj : j < pas.length
      · rw [List.getElem?_append_left hj] at e1
        rw [List.getElem?_append_left (by rw [← hper.len]; exact hj)] at e2
        exact k9 _ _ (hper.at' j a x e1 e2) fun z => hpa1 (by rw [← z]; exact List.mem_of_getElem? e1)
      · have hjle : j < (pas ++ [r]).length := (List.getElem?_eq_some_iff.mp e1).1
        rw [List.length_append, List.length_singleton] at hjle
        have ej : j = pas.length := by omega
        rw [List.getElem?_append_right (by omega), ej, Nat.sub_self] at e1
        rw [List.getElem?_append_right (by rw [← hper.len]; omega), ej, hper.len, Nat.sub_self] at e2
        cases e1
        cases e2
        exact k9 _ _ hrw hrpa
    · intro m
      rcases List.mem_append.mp m with m | m
      · exact hpa1 m
      · exact hrpa (List.mem_singleton.mp m).symm
    · intro b hb m
      rcases List.mem_cons.mp hb with e | hb
      · exact hpa2 b (by simp [e]) m
      rcases List.mem_append.mp hb with hb | hb
      · exact hpa2 b (by simp [hb]) m
      · have e : b = r := by simpa using hb
        subst e
        exact hrf (List.mem_append_left _ m)
    · rcases List.mem_append.mp hb with hb | hb
      · exact .inl (List.mem_append_left _ hb)
      rcases List.mem_cons.mp hb with e | hb
      · exact .inl (by simp [e])
      rcases List.mem_append.mp hb with hb | hb
      · exact .inl (by simp [hb])
      · exact .inr (.inl hb)
    · rw [upd_same, ok_NL, List.length_append, List.length_map, hper.len]
      rfl
    · intro hb
      rcases List.mem_append.mp hb with hb | hb
      · exact hp0.fresh hlH hb
      rcases List.mem_cons.mp hb with e | hb
      · exact hlpa e
      rcases List.mem_append.mp hb with hb | hb
      · exact hp.fresh hlH (by simp [hb])
      · exact hrl (List.mem_singleton.mp hb).symm
end
end Ks
namespace Ks
open PySem PySem.Spec PyProof.Rows L2
open Vbahal (Class State withPeriod zeros)
section
variable {P : Program} {w : World} {K : PySem.W.Frag} {mg : Str → Option Value} {base : Heap} {CW CC CP : Addr}
def srN (st : State) (t x : Nat) : Int := if st.periods.length < t then -9 else if st.seats < x then -8 else 0
def spSR (CP : Addr) : Sp := fun vs H Q _ => ∃ (p : Addr) (foot : List Addr) (st : State) (t x : Nat), vs = [.ref p, nv t, nv x] ∧ PlanAt CP H p foot st ∧ Q (.int (srN st t x)) H
theorem ok_span_refused (F : FnIn K mg "span_refused" s_span_refused ["plan", "t", "x"]) (T : Txt K mg CW CC CP) : FnDo P w K mg base 1 "span_refused" s_span_refused ["plan", "t", "x"] (spSR CP) := by
  refine F.doIt sc_span_refused (fun vs H Q E h => ?_) (fun f cdv A outer s H vs Q E hr h => ?_)
  · obtain ⟨p, foot, st, t, x, rfl, _⟩ := h
    rfl
  · obtain ⟨p, foot, st, t, x, rfl, hp, q⟩ := h
    refine ⟨_, (pss_cons (ps_if (pt_cmpR op_gt (pv 1) (pe_callB (call_lenK K rfl) (by rfl) T.no_len PySem.boot_len (pa_cons (pe_fldK K rfl (pv 0) rfl) pa_nil)) (nomark _)) (pss_one (ps_ret (pe_un un_neg pe_int))) pss_nil) (pss_cons (ps_if (pt_cmpR op_gt (pv 2) (pe_fldK K rfl (pv 0) rfl) (nomark _)) (pss_one (ps_ret (pe_un un_neg pe_int))) pss_nil) (pss_one (ps_ret pe_int)))), ?_⟩
    obtain ⟨pa, pas, foot0, rfl, hp0, hper, hpa1, hpa2⟩ := id hp.ex
    obtain ⟨dx, fs, fa, wa, was, rfl, h1, h2, h3, h4, h5, hq, h6, h7, h8, h9, h10⟩ := id hp0.ex
    unfold srN at q
    refine ⟨_, rfl, _, rfl, p, CP, dx, fs, _, rfl, h1, T.cP, T.p_periods, hq, pa, _, rfl, .inl (SqL.of hper.lst), _, _, rfl, rfl, _, rfl, ?_⟩
    rw [List.length_map, hper.len]
    refine ite2 (fun hc => ?_) (fun hc => ?_)
    · have hc : st.periods.length < t := by
        have := of_decide_eq_true hc
        omega
      rw [if_pos hc] at q
      exact ⟨_, rfl, q⟩
    · have hc : ¬ st.periods.length < t := fun h => hc (decide_eq_true (by omega))
      rw [if_neg hc] at q
      refine ⟨_, rfl, _, rfl, p, CP, dx, fs, _, rfl, h1, T.cP, T.p_seats, h3, _, _, rfl, rfl, _, rfl, ?_⟩
      refine ite2 (fun hc => ?_) (fun hc => ?_)
      · have hc : st.seats < x := by
          have := of_decide_eq_true hc
          omega
        rw [if_pos hc] at q
        exact ⟨_, rfl, q⟩
      · have hc : ¬ st.seats < x := fun h => hc (decide_eq_true (by omega))
        rw [if_neg hc] at q
        exact q
def spSW (CW CP : Addr) : Sp := fun vs H Q _ => ∃ (p : Addr) (foot : List Addr) (st : State) (t x : Nat), vs = [.ref p, nv t, nv x] ∧ PlanAt CP H p foot st ∧ StOk st ∧ t ≤ st.periods.length ∧ x ≤ 60 ∧
  ∀ (H' : Hp) (a : Addr), Same H H' → WorthAt CW H' a (vfold x (st.classes.map (·.fare)) (st.periods.take t)) → Q (.ref a) H'
theorem ok_span_worth (F : FnIn K mg "span_worth" s_span_worth ["plan", "t", "x"]) (T : Txt K mg CW CC CP) (G_span_worths : FnDo P w K mg base 4 "span_worths" s_span_worths ["fares", "periods", "seats"] (spSpan K CW)) :
    FnDo P w K mg base 5 "span_worth" s_span_worth ["plan", "t", "x"] (spSW CW CP) := by
  refine F.doIt sc_span_worth (fun vs H Q E h => ?_) (fun f cdv A outer s H vs Q E hr h => ?_)
  · obtain ⟨p, foot, st, t, x, rfl, _⟩ := h
    rfl
  · obtain ⟨p, foot, st, t, x, rfl, hp, ok, ht, hx, q⟩ := h
    refine ⟨_, (pss_one (ps_ret (pe_ix (ix_listK K rfl) (pe_callO G_span_worths (hr.mono (by decide)) rfl (pa_cons (pe_fldK K rfl (pv 0) rfl) (pa_cons (pe_slice (sl_listK K rfl) (pe_fldK K rfl (pv 0) rfl) po_none (po_some (pv 1))) (pa_cons (pv 2) pa_nil)))) (pv 1) (fun _ _ => rfl)))), ?_⟩
    obtain ⟨pa, pas, foot0, rfl, hp0, hper, hpa1, hpa2⟩ := id hp.ex
    obtain ⟨dx, fs, fa, wa, was, rfl, h1, h2, h3, h4, h5, hq, h6, h7, h8, h9, h10⟩ := id hp0.ex
    have hplen := ok.plen
    refine ⟨_, rfl, p, CP, dx, fs, _, rfl, h1, T.cP, T.p_fares, h4, _, rfl, p, CP, dx, fs, _, rfl, h1, T.cP, T.p_periods, hq, _, rfl, _, rfl, pa, _, rfl, SqL.of hper.lst, fun c1 hc1 => ?_⟩
    have s1 : Same H (upd H c1 (.lst (cutV (pas.map V.ref) none (some (t : Int))))) := Same.upd_new hc1
    refine ⟨_, rfl, fa, c1, x, st.classes.map (·.fare), st.periods.take t, rfl, SqL.of (s1 _ _ h6), ⟨pas.take t, SqL.of ?_, ?_, ?_⟩, hx, ?_, fun r hr => pers_ok ok r (List.mem_of_mem_take hr), fares_ok ok, fun H3 l as s3 hl hal hat => ?_⟩
    · rw [upd_same, cut_to, List.map_take]
    · rw [List.length_take, List.length_take, hper.len]
    · intro j a r ea er
      exact SqL.of (s1 _ _ (hper.at' j a r (take_get ea).1 (take_get er).1))
    · rw [List.length_take]
      omega
    · rw [List.length_take] at hal
      obtain ⟨a, ha⟩ : ∃ a, as[t]? = some a := ⟨_, List.getElem?_eq_getElem (by omega)⟩
      refine ⟨_, rfl, l, _, _, V.ref a, rfl, rfl, SqL.of hl, atI_nat (by rw [List.getElem?_map, ha]; rfl), ?_⟩
      have := hat t a ha
      rw [List.take_take, Nat.min_self] at this
      exact q H3 a (s1.trans s3) this
theorem neI0 {i : Int} : (!decide (V.int i = V.int 0)) = decide (i ≠ 0) := by
  by_cases e : i = 0
  · subst e
    simp
  · have : ¬ V.int i = V.int 0 := fun z => e (by injection z)
    simp [this, e]
theorem ok_spanvalue (F : FnIn K mg "spanvalue" s_spanvalue ["plan", "numbers", "rows"]) (T : Txt K mg CW CC CP) (G_span_refused : FnDo P w K mg base 1 "span_refused" s_span_refused ["plan", "t", "x"] (spSR CP))
    (G_span_worth : FnDo P w K mg base 5 "span_worth" s_span_worth ["plan", "t", "x"] (spSW CW CP)) (G_lowest_terms : FnDo P w K mg base 2 "lowest_terms" s_lowest_terms ["above", "below"] spLow) :
    FnDo P w K mg base 6 "spanvalue" s_spanvalue ["plan", "numbers", "rows"] (spRP CP CSpan) := by
  refine F.doIt sc_spanvalue (fun vs H Q E h => ?_) (fun f cdv A outer s H vs Q E hr h => ?_)
  · obtain ⟨p, nu, ro, foot, st, ns, rows, c, rfl, _⟩ := h
    rfl
  · obtain ⟨p, nu, ro, foot, st, ns, rows, c, rfl, hp, ok, hk, hnu, hro, ⟨t, x, rfl, rfl⟩, hck, q⟩ := h
    refine ⟨_, (pss_cons (ps_set (i := 3) sc_spanvalue.nd rfl (by first | exact Or.inl rfl | exact Or.inr rfl) (pe_ix (ix_listK K rfl) (pv 1) pe_int (fun _ _ => rfl))) (pss_cons (ps_set (i := 4) sc_spanvalue.nd rfl (by first | exact Or.inl rfl | exact Or.inr rfl) (pe_ix (ix_listK K rfl) (pv 1) pe_int (fun _ _ => rfl))) (pss_cons (ps_set (i := 5) sc_spanvalue.nd rfl (by first | exact Or.inl rfl | exact Or.inr rfl) (pe_callO G_span_refused (hr.mono (by decide)) rfl (pa_cons (pv 0) (pa_cons (pv 3) (pa_cons (pv 4) pa_nil))))) (pss_cons (ps_if (pt_cmpR op_ne (pv 5) pe_int (nomark _)) (pss_one (ps_ret (pe_lst (pa_cons (pv 5) pa_nil)))) pss_nil) (pss_cons (ps_set (i := 6) sc_spanvalue.nd rfl (by first | exact Or.inl rfl | exact Or.inr rfl) (pe_callO G_span_worth (hr.mono (by decide)) rfl (pa_cons (pv 0) (pa_cons (pv 3) (pa_cons (pv 4) pa_nil))))) (pss_one (ps_ret (pe_op op_cat (pe_lst (pa_cons pe_int pa_nil)) (pe_callO G_lowest_terms (hr.mono (by decide)) rfl (pa_cons (pe_ix (ix_listK K rfl) (pe_fldK K rfl (pv 6) rfl) (pv 4) (fun _ _ => rfl)) (pa_cons (pe_fldK K rfl (pv 6) rfl) pa_nil))))))))))), ?_⟩
    have hstep : (Vbahal.step st (.spanValue t x)).2 = if st.periods.length < t then [-9] else if st.seats < x then [-8] else Vbahal.ok (Vbahal.frac (Vbahal.spanWorth st t x) (Vbahal.spanUnit st t)) := by
      show (Vbahal.has st 0 _).2 = _
      rw [has_ok hk]
      split
      · rfl
      · split <;> rfl
    rw [hstep] at q
    have hx60 : x ≤ 60 := hck.2
    refine ⟨_, rfl, nu, _, _, _, rfl, rfl, SqL.of hnu, NL_at (l := [t, x]) (i := 0) rfl, ?_⟩
    refine ⟨_, rfl, nu, _, _, _, rfl, rfl, SqL.of hnu, NL_at (l := [t, x]) (i := 1) rfl, ?_⟩
    refine ⟨_, rfl, _, rfl, _, rfl, p, foot, st, t, x, rfl, hp, ?_⟩
    refine ⟨_, rfl, rfl, _, rfl, ?_⟩
    show (if (!decide (V.int (srN st t x) = V.int 0)) = true then _ else _)
    rw [neI0]
    refine ite2 (fun hc => ?_) (fun hc => ?_)
    · refine ⟨_, rfl, (by show 1 ≤ sizeLine; decide), fun l hl => ?_⟩
      have hc := of_decide_eq_true hc
      refine q _ l (Same.upd_new hl) hl ?_
      rw [upd_same]
      unfold srN at hc ⊢
      by_cases c1 : st.periods.length < t
      · rw [if_pos c1, if_pos c1]
        rfl
      · rw [if_neg c1] at hc ⊢
        rw [if_neg c1]
        by_cases c2 : st.seats < x
        · rw [if_pos c2, if_pos c2]
          rfl
        · rw [if_neg c2] at hc
          exact absurd rfl hc
    · have hc : srN st t x = 0 := by
        by_cases e : srN st t x = 0
        · exact e
        · exact absurd (decide_eq_true e) hc
      unfold srN at hc
      have c1 : ¬ st.periods.length < t := fun h => by rw [if_pos h] at hc; cases hc
      rw [if_neg c1] at hc
      have c2 : ¬ st.seats < x := fun h => by rw [if_pos h] at hc; cases hc
      rw [if_neg c1, if_neg c2, ok_NL] at q
      refine ⟨_, rfl, _, rfl, _, rfl, p, foot, st, t, x, rfl, hp, ok, by omega, hx60, fun H1 a s1 hW => ?_⟩
      obtain ⟨v1, v2⟩ := vfold_agree (show x ≤ st.seats by omega) (st.classes.map (·.fare)) (st.periods.take t)
      have vg : VGood x (st.periods.take t).length (vfold x (st.classes.map (·.fare)) (st.periods.take t)) := vfold_good fun r hr => ok.pgood r (List.mem_of_mem_take hr)
      have e1 : Vbahal.spanWorth st t x = (vfold x (st.classes.map (·.fare)) (st.periods.take t)).2.getD x 0 := by rw [vrow_worth (by omega), vrow_vfold, v2 x (Nat.le_refl _)]
      have e2 : Vbahal.spanUnit st t = (vfold x (st.classes.map (·.fare)) (st.periods.take t)).1 := by rw [vrow_unit (by omega), vrow_vfold, v1]
      rw [e1, e2] at q
      have vlen := vg.len
      have vpos := vg.pos
      have vsm := vunit_small vg.le (by rw [List.length_take]; have := ok.plen; omega)
      generalize vfold x (st.classes.map (·.fare)) (st.periods.take t) = T0 at *
      obtain ⟨la, ⟨dw, gs, g1, g2, g3⟩, g4⟩ := hW
      refine ⟨(by show 1 ≤ sizeLine; decide), fun l0 hl0 => ?_⟩
      have s2 : Same H1 (upd H1 l0 (.lst [V.int 0])) := Same.upd_new hl0
      refine ⟨_, rfl, a, CW, dw, gs, _, rfl, s2 _ _ g1, T.cW, T.w_above, g2, _, rfl, la, _, _, _, rfl, rfl, SqL.of (s2 _ _ g4), NL_getD (by omega), _, rfl, a, CW, dw, gs, _, rfl, s2 _ _ g1, T.cW, T.w_below, g3, ?_⟩
      refine ⟨T0.2.getD x 0, T0.1, rfl, vpos, vsm, fun H3 l3 s3 hn3 hl3 => ?_⟩
      refine ⟨l0, l3, _, _, rfl, rfl, s3 _ _ upd_same, hl3, (by show 3 ≤ sizeLine; decide), fun l4 hl4 => ?_⟩
      refine q _ l4 (((s1.trans s2).trans s3).trans (Same.upd_new hl4)) (((s1.trans s2).trans s3).free hl4) ?_
      rw [upd_same]
      rfl
theorem filt_succ {f : Nat → Bool} (i : Nat) : ((List.range (i + 1)).filter f).length = ((List.range i).filter f).length + (if f i = true then 1 else 0) := by
  rw [List.range_succ, List.filter_append, List.length_append, List.filter_cons, List.filter_nil]
  split <;> rfl
theorem ok_accept (F : FnIn K mg "accept" s_accept ["plan", "numbers", "rows"]) (T : Txt K mg CW CC CP) (G_span_refused : FnDo P w K mg base 1 "span_refused" s_span_refused ["plan", "t", "x"] (spSR CP))
    (G_span_worth : FnDo P w K mg base 5 "span_worth" s_span_worth ["plan", "t", "x"] (spSW CW CP)) (G_is_taken : FnDo P w K mg base 1 "is_taken" s_is_taken ["fare", "later", "x"] (spTaken CW)) :
    FnDo P w K mg base 6 "accept" s_accept ["plan", "numbers", "rows"] (spRP CP CAccept) := by
  refine F.doIt sc_accept (fun vs H Q E h => ?_) (fun f cdv A outer s H vs Q E hr h => ?_)
  · obtain ⟨p, nu, ro, foot, st, ns, rows, c, rfl, _⟩ := h
    rfl
  · obtain ⟨p, nu, ro, foot, st, ns, rows, c, rfl, hp, ok, hk, hnu, hro, ⟨t, x, rfl, ht1, rfl⟩, hck, q⟩ := h
    refine ⟨_, (pss_cons (ps_set (i := 3) sc_accept.nd rfl (by first | exact Or.inl rfl | exact Or.inr rfl) (pe_ix (ix_listK K rfl) (pv 1) pe_int (fun _ _ => rfl))) (pss_cons (ps_set (i := 4) sc_accept.nd rfl (by first | exact Or.inl rfl | exact Or.inr rfl) (pe_ix (ix_listK K rfl) (pv 1) pe_int (fun _ _ => rfl))) (pss_cons (ps_set (i := 5) sc_accept.nd rfl (by first | exact Or.inl rfl | exact Or.inr rfl) (pe_callO G_span_refused (hr.mono (by decide)) rfl (pa_cons (pv 0) (pa_cons (pv 3) (pa_cons (pv 4) pa_nil))))) (pss_cons (ps_if (pt_cmpR op_ne (pv 5) pe_int (nomark _)) (pss_one (ps_ret (pe_lst (pa_cons (pv 5) pa_nil)))) pss_nil) (pss_cons (ps_set (i := 6) sc_accept.nd rfl (by first | exact Or.inl rfl | exact Or.inr rfl) (pe_callO G_span_worth (hr.mono (by decide)) rfl (pa_cons (pv 0) (pa_cons (pe_op op_sub (pv 3) pe_int) (pa_cons (pv 4) pa_nil))))) (pss_one (ps_ret (pe_lst (pa_cons pe_int (pa_cons (pe_callB (call_lenK K rfl) (by rfl) T.no_len PySem.boot_len (pa_cons (pe_lc rfl sc_accept.nd (pi_listK K rfl (pe_fldK K rfl (pv 0) rfl)) (blkOk_by (own := [("fare", 7)]) rfl) (fun _ _ _ _ _ => (pg_name (i := 7) sc_accept.nd rfl (by first | exact Or.inl rfl | exact Or.inr rfl))) (fun _ _ _ _ _ => (pts_one (pt_val (pe_callO G_is_taken (hr.mono (by decide)) rfl (pa_cons (pv 7) (pa_cons (pv 6) (pa_cons (pv 4) pa_nil))))))) (fun _ _ _ _ _ => (pv 7))) pa_nil)) pa_nil)))))))))), ?_⟩
    obtain ⟨pa, pas, foot0, efoot, hp0, hper, hpa1, hpa2⟩ := id hp.ex
    obtain ⟨dx, fs, fa, wa, was, ef0, h1, h2, h3, h4, h5, hq, h6, h7, h8, h9, h10⟩ := id hp0.ex
    have hstep : (Vbahal.step st (.accept t x)).2 = if st.periods.length < t then [-9] else if st.seats < x then [-8] else Vbahal.ok [((List.range st.classes.length).filter fun i => Vbahal.accepts st t x i).length] := by
      show (Vbahal.has st 0 _).2 = _
      rw [has_ok hk]
      split
      · rfl
      · split <;> rfl
    rw [hstep] at q
    have hx60 : x ≤ 60 := hck.2.2
    have hlen := ok.len
    refine ⟨_, rfl, nu, _, _, _, rfl, rfl, SqL.of hnu, NL_at (l := [t, x]) (i := 0) rfl, ?_⟩
    refine ⟨_, rfl, nu, _, _, _, rfl, rfl, SqL.of hnu, NL_at (l := [t, x]) (i := 1) rfl, ?_⟩
    refine ⟨_, rfl, _, rfl, _, rfl, p, foot, st, t, x, rfl, hp, ?_⟩
    refine ⟨_, rfl, rfl, _, rfl, ?_⟩
    show (if (!decide (V.int (srN st t x) = V.int 0)) = true then _ else _)
    rw [neI0]
    refine ite2 (fun hc => ?_) (fun hc => ?_)
    · refine ⟨_, rfl, (by show 1 ≤ sizeLine; decide), fun l hl => ?_⟩
      have hc := of_decide_eq_true hc
      refine q _ l (Same.upd_new hl) hl ?_
      rw [upd_same]
      unfold srN at hc ⊢
      by_cases c1 : st.periods.length < t
      · rw [if_pos c1, if_pos c1]
        rfl
      · rw [if_neg c1] at hc ⊢
        rw [if_neg c1]
        by_cases c2 : st.seats < x
        · rw [if_pos c2, if_pos c2]
          rfl
        · rw [if_neg c2] at hc
          exact absurd rfl hc
    · have hc : srN st t x = 0 := by
        by_cases e : srN st t x = 0
        · exact e
        · exact absurd (decide_eq_true e) hc
      unfold srN at hc
      have c1 : ¬ st.periods.length < t := fun h => by rw [if_pos h] at hc; cases hc
      rw [if_neg c1] at hc
      have c2 : ¬ st.seats < x := fun h => by rw [if_pos h] at hc; cases hc
      rw [if_neg c1, if_neg c2, ok_NL] at q
      refine ⟨_, rfl, _, rfl, _, _, rfl, rfl, _, rfl, p, foot, st, t - 1, x, ?_, hp, ok, by omega, hx60, fun H1 a s1 hW => ?_⟩
      · show [V.ref p, V.int ((t : Int) - 1), nv x] = _
        rw [show (t : Int) - 1 = ((t - 1 : Nat) : Int) by omega]
      have htk : ∀ i fr, (st.classes.map (·.fare))[i]? = some fr → taken fr (vfold x (st.classes.map (·.fare)) (st.periods.take (t - 1))) x = Vbahal.accepts st t x i := fun i fr e => by
        have hi := (List.getElem?_eq_some_iff.mp e).1
        rw [List.length_map] at hi
        rw [← fareOf_at e]
        exact taken_eq ht1 (by omega) hi (by omega) (Nat.le_refl _)
      have vlen : (vfold x (st.classes.map (·.fare)) (st.periods.take (t - 1))).2.length = x + 1 := (vfold_good fun r hr => ok.pgood r (List.mem_of_mem_take hr)).len
      generalize vfold x (st.classes.map (·.fare)) (st.periods.take (t - 1)) = T0 at *
      refine ⟨_, rfl, p, CP, dx, fs, _, rfl, s1 _ _ h1, T.cP, T.p_fares, h4, fa, rfl, ⟨_, SqL.of (s1 _ _ h6)⟩, ?_⟩
      intro D hD
      refine lc_list (K := K) (a := fa) (xs := NL (st.classes.map (·.fare))) (fun j Hj => Same H1 Hj ∧ ∃ acc, Hj D = some (.lst acc) ∧ acc.length = ((List.range j).filter fun i => Vbahal.accepts st t x i).length) ⟨Same.upd_new hD, [], upd_same, rfl⟩ (fun j Hj _ ⟨s5, _⟩ => SqL.of (s5 _ _ (s1 _ _ h6))) ?_ ?_
      · rintro j y Hj hj ⟨s5, acc, hDj, hacc⟩
        obtain ⟨fr, hfr, rfl⟩ := NL_get hj
        have hjl : j < st.classes.length := by
          have := (List.getElem?_eq_some_iff.mp hfr).1
          rw [List.length_map] at this
          exact this
        have hle : ((List.range j).filter fun i => Vbahal.accepts st t x i).length ≤ j := by
          have := List.length_filter_le (fun i => Vbahal.accepts st t x i) (List.range j)
          rw [List.length_range] at this
          exact this
        refine ⟨rfl, _, rfl, _, rfl, _, rfl, fr, a, x, T0, rfl, hW.same s5, fares_ok ok fr (List.mem_of_getElem? hfr), by omega, _, rfl, ?_⟩
        rw [htk j fr hfr]
        refine ite2 (fun hc => ?_) (fun hc => ?_)
        · refine ⟨_, rfl, acc, hDj, (by show acc.length < 16777216; omega), fun b o e => by rw [upd_ne (ne_of_none e hD)]; exact s5 _ _ e, _, upd_same, ?_⟩
          rw [filt_succ, if_pos hc, List.length_append, hacc]
          rfl
        · refine ⟨s5, acc, hDj, ?_⟩
          rw [filt_succ, if_neg hc, hacc]
          rfl
      · rintro Hj ⟨s5, acc, hDj, hacc⟩
        rw [NL_len, List.length_map] at hacc
        refine ⟨D, acc, rfl, .inl (SqL.of hDj), (by show 2 ≤ sizeLine; decide), fun l hl => ?_⟩
        refine q _ l ((s1.trans s5).trans (Same.upd_new hl)) ((s1.trans s5).free hl) ?_
        rw [upd_same, hacc]
        rfl
theorem any_gt {n : Nat} : ∀ q : List Nat, (q.map fun i => decide ((n : Int) < ((i : Nat) : Int))).any id = !(q.all fun i => decide (i ≤ n))
  | [] => rfl
  | i :: q => by
    rw [List.map_cons, List.any_cons, List.all_cons, any_gt q]
    by_cases h : i ≤ n
    · rw [decide_eq_true h]
      have : decide ((n : Int) < ((i : Nat) : Int)) = false := decide_eq_false (by omega)
      rw [this]
      simp
    · rw [decide_eq_false h]
      have : decide ((n : Int) < ((i : Nat) : Int)) = true := decide_eq_true (by omega)
      rw [this]
      simp
theorem ok_requests (F : FnIn K mg "requests" s_requests ["plan", "numbers", "rows"]) (T : Txt K mg CW CC CP) (G_span_worths : FnDo P w K mg base 4 "span_worths" s_span_worths ["fares", "periods", "seats"] (spSpan K CW))
    (G_is_taken : FnDo P w K mg base 1 "is_taken" s_is_taken ["fare", "later", "x"] (spTaken CW)) : FnDo P w K mg base 5 "requests" s_requests ["plan", "numbers", "rows"] (spRP CP CRequests) := by
  refine F.doIt sc_requests (fun vs H Q E h => ?_) (fun f cdv A outer s H vs Q E hr h => ?_)
  · obtain ⟨p, nu, ro, foot, st, ns, rows, c, rfl, _⟩ := h
    rfl
  · obtain ⟨p, nu, ro, foot, st, ns, rows, c, rfl, hp, ok, hk, hnu, hro, ⟨x, rq, rfl, hrows, hrl, rfl⟩, hck, q⟩ := h
    refine ⟨_, (pss_cons (ps_set (i := 3) sc_requests.nd rfl (by first | exact Or.inl rfl | exact Or.inr rfl) (pe_ix (ix_listK K rfl) (pv 1) pe_int (fun _ _ => rfl))) (pss_cons (ps_set (i := 4) sc_requests.nd rfl (by first | exact Or.inl rfl | exact Or.inr rfl) (pe_callB (call_lenK K rfl) (by rfl) T.no_len PySem.boot_len (pa_cons (pe_fldK K rfl (pv 0) rfl) pa_nil))) (pss_cons (ps_set (i := 5) sc_requests.nd rfl (by first | exact Or.inl rfl | exact Or.inr rfl) (pe_callB (call_lenK K rfl) (by rfl) T.no_len PySem.boot_len (pa_cons (pe_fldK K rfl (pv 0) rfl) pa_nil))) (pss_cons (ps_if (pt_cmpR op_gt (pv 3) (pe_fldK K rfl (pv 0) rfl) (nomark _)) (pss_one (ps_ret (pe_lst (pa_cons (pe_un un_neg pe_int) pa_nil)))) pss_nil) (pss_cons (ps_if (PW.pt (pw_or (pt_cmpR op_ne (pe_callB (call_lenK K rfl) (by rfl) T.no_len PySem.boot_len (pa_cons (pe_ix (ix_listK K rfl) (pv 2) pe_int (fun _ _ => rfl)) pa_nil)) (pv 5) (nomark _)) (pw_or1 (pt_val (pe_callB (cr_anyK K rfl rfl) (by rfl) T.no_any boot_any (pa_cons (pe_lc rfl sc_requests.nd (pi_listK K rfl (pe_ix (ix_listK K rfl) (pv 2) pe_int (fun _ _ => rfl))) (blkOk_by (own := [("request", 9)]) rfl) (fun _ _ _ _ _ => (pg_name (i := 9) sc_requests.nd rfl (by first | exact Or.inl rfl | exact Or.inr rfl))) (fun _ _ _ _ _ => pts_nil) (fun _ _ _ _ _ => (pe_cmpR op_gt (pv 9) (pv 4) (nomark _)))) pa_nil)))))) (pss_one (ps_ret (pe_lst (pa_cons (pe_un un_neg pe_int) pa_nil)))) pss_nil) (pss_cons (ps_set (i := 6) sc_requests.nd rfl (by first | exact Or.inl rfl | exact Or.inr rfl) (pe_callO G_span_worths (hr.mono (by decide)) rfl (pa_cons (pe_fldK K rfl (pv 0) rfl) (pa_cons (pe_fldK K rfl (pv 0) rfl) (pa_cons (pv 3) pa_nil))))) (pss_cons (ps_set (i := 7) sc_requests.nd rfl (by first | exact Or.inl rfl | exact Or.inr rfl) (pe_lst pa_nil)) (pss_cons (ps_set (i := 8) sc_requests.nd rfl (by first | exact Or.inl rfl | exact Or.inr rfl) pe_int) (pss_cons (ps_for PassesOwn.never rfl (pi_listK K rfl (pe_ix (ix_listK K rfl) (pv 2) pe_int (fun _ _ => rfl))) (pg_name (i := 9) sc_requests.nd rfl (by first | exact Or.inl rfl | exact Or.inr rfl)) (pss_cons (ps_aug (i := 5) sc_requests.nd rfl (by first | exact Or.inl rfl | exact Or.inr rfl) pe_int ip_sub) (pss_one (ps_if (PW.pt (pw_and (pt_cmpR op_lt (pv 9) (pv 4) (nomark _)) (pw_and1 (pt_val (pe_callO G_is_taken (hr.mono (by decide)) rfl (pa_cons (pe_ix (ix_listK K rfl) (pe_fldK K rfl (pv 0) rfl) (pv 9) (fun _ _ => rfl)) (pa_cons (pe_ix (ix_listK K rfl) (pv 6) (pv 5) (fun _ _ => rfl)) (pa_cons (pv 3) pa_nil)))))))) (pss_cons (ps_expr (pe_bm PySem.F.plainAttrs_list PySem.F.slot_list_append PySem.F.type_list_append mt_append (pv 7) (pa_cons pe_int pa_nil))) (pss_cons (ps_aug (i := 3) sc_requests.nd rfl (by first | exact Or.inl rfl | exact Or.inr rfl) pe_int ip_sub) (pss_one (ps_aug (i := 8) sc_requests.nd rfl (by first | exact Or.inl rfl | exact Or.inr rfl) (pe_ix (ix_listK K rfl) (pe_fldK K rfl (pv 0) rfl) (pv 9) (fun _ _ => rfl)) ip_add)))) (pss_one (ps_expr (pe_bm PySem.F.plainAttrs_list PySem.F.slot_list_append PySem.F.type_list_append mt_append (pv 7) (pa_cons pe_int pa_nil)))))))) (pss_one (ps_ret (pe_op op_cat (pe_op op_cat (pe_lst (pa_cons pe_int pa_nil)) (pv 7)) (pe_lst (pa_cons (pv 8) pa_nil)))))))))))))), ?_⟩
    obtain ⟨pa, pas, foot0, efoot, hp0, hper, hpa1, hpa2⟩ := id hp.ex
    obtain ⟨dx, fs, fa, wa, was, ef0, h1, h2, h3, h4, h5, hq, h6, h7, h8, h9, h10⟩ := id hp0.ex
    obtain ⟨r, ras, hr1, hr2, hr3⟩ := rowH_at hro hrows
    have hstep : (Vbahal.step st (.requests x rq)).2 = if st.seats < x then [-8] else if rq.length ≠ st.periods.length ∨ (rq.all fun i => decide (i ≤ st.classes.length)) = false then [-7] else Vbahal.ok (Vbahal.requested st rq.length x rq ++ [earned st (Vbahal.requested st rq.length x rq) rq]) := by
      show (Vbahal.has st 0 _).2 = _
      rw [has_ok hk]
      split
      · rfl
      · split <;> rfl
    rw [hstep] at q
    have hx60 : x ≤ 60 := hck.1
    have hlen := ok.len
    have hplen := ok.plen
    refine ⟨_, rfl, nu, _, _, _, rfl, rfl, SqL.of hnu, NL_at (l := [x]) (i := 0) rfl, ?_⟩
    refine ⟨_, rfl, p, CP, dx, fs, _, rfl, h1, T.cP, T.p_fares, h4, fa, _, rfl, .inl (SqL.of h6), ?_⟩
    refine ⟨_, rfl, p, CP, dx, fs, _, rfl, h1, T.cP, T.p_periods, hq, pa, _, rfl, .inl (SqL.of hper.lst), ?_⟩
    refine ⟨_, rfl, _, rfl, p, CP, dx, fs, _, rfl, h1, T.cP, T.p_seats, h3, _, _, rfl, rfl, _, rfl, ?_⟩
    refine ite2 (fun hc => ?_) (fun hc => ?_)
    · have hc : st.seats < x := by
        have := of_decide_eq_true hc
        omega
      rw [if_pos hc] at q
      refine ⟨_, rfl, (by show 1 ≤ sizeLine; decide), fun l hl => ?_⟩
      exact q _ l (Same.upd_new hl) hl upd_same
    have hc : ¬ st.seats < x := fun h => hc (decide_eq_true (by omega))
    rw [if_neg hc] at q
    rw [NL_len, List.length_map, List.length_map, hper.len]
    refine ⟨_, rfl, ro, _, _, V.ref r, rfl, rfl, SqL.of hr1, hr2, r, _, rfl, .inl (SqL.of hr3), _, rfl, rfl, _, rfl, ?_⟩
    rw [NL_len]
    show (if (!decide (V.int ((rq.length : Nat) : Int) = V.int ((st.periods.length : Nat) : Int))) = true then _ else _)
    rw [ne_len]
    refine ite2 (fun hc1 => ?_) (fun hc1 => ?_)
    · have hc1 := of_decide_eq_true hc1
      rw [if_pos (.inl hc1)] at q
      refine ite2 (fun _ => ?_) (fun h => absurd rfl h)
      refine ⟨_, rfl, (by show 1 ≤ sizeLine; decide), fun l hl => ?_⟩
      exact q _ l (Same.upd_new hl) hl upd_same
    have hc1 : rq.length = st.periods.length := by
      by_cases e : rq.length = st.periods.length
      · exact e
      · exact absurd (decide_eq_true e) hc1
    refine ⟨_, rfl, ro, _, _, V.ref r, rfl, rfl, SqL.of hr1, hr2, r, rfl, ⟨_, SqL.of hr3⟩, ?_⟩
    intro D hD
    refine lc_list (K := K) (a := r) (xs := NL rq) (fun j Hj => Same H Hj ∧ Hj D = some (.lst (((rq.take j).map fun i => decide ((st.classes.length : Int) < ((i : Nat) : Int))).map V.bl))) ⟨Same.upd_new hD, upd_same⟩ (fun j Hj _ ⟨s5, _⟩ => SqL.of (s5 _ _ hr3)) ?_ ?_
    · rintro j y Hj hj ⟨s5, hDj⟩
      obtain ⟨n, hn, rfl⟩ := NL_get hj
      have hjl : j < rq.length := (List.getElem?_eq_some_iff.mp hn).1
      refine ⟨rfl, tYes_i ?_⟩
      refine ⟨_, rfl, _, rfl, _, _, rfl, rfl, _, hDj, ?_, fun b o e => by rw [upd_ne (ne_of_none e hD)]; exact s5 _ _ e, ?_⟩
      · rw [List.length_map, List.length_map, List.length_take]
        show min j _ < 16777216
        omega
      · rw [upd_same, take_snoc hn, List.map_append, List.map_append]
        rfl
    rintro Hj ⟨s5, hDj⟩
    rw [NL_len, List.take_length] at hDj
    refine ⟨D, _, rfl, SqL.of hDj, _, rfl, ?_⟩
    rw [any_gt]
    refine ite2 (fun hc2 => ?_) (fun hc2 => ?_)
    · have hc2 : (rq.all fun i => decide (i ≤ st.classes.length)) = false := by simpa using hc2
      rw [if_pos (.inr hc2)] at q
      refine ⟨_, rfl, (by show 1 ≤ sizeLine; decide), fun l hl => ?_⟩
      exact q _ l (s5.trans (Same.upd_new hl)) (s5.free hl) upd_same
    have hc2 : ¬ (rq.all fun i => decide (i ≤ st.classes.length)) = false := fun h => hc2 (by rw [h]; rfl)
    rw [if_neg (fun h => h.elim (fun h => h hc1) hc2), ok_NL] at q
    refine ⟨_, rfl, p, CP, dx, fs, _, rfl, s5 _ _ h1, T.cP, T.p_fares, h4, _, rfl, p, CP, dx, fs, _, rfl, s5 _ _ h1, T.cP, T.p_periods, hq, _, rfl, ?_⟩
    refine ⟨fa, pa, x, st.classes.map (·.fare), st.periods, rfl, SqL.of (s5 _ _ h6), ⟨pas, SqL.of (s5 _ _ hper.lst), hper.len, fun j a r e1 e2 => SqL.of (s5 _ _ (hper.at' j a r e1 e2))⟩, hx60, hplen, pers_ok ok, fares_ok ok, fun H3 wl as s3 hwl hal hat => ?_⟩
    refine ⟨Nat.zero_le _, fun so hso => ?_⟩
    have s35 := s5.trans s3
    have s4 : Same H3 (upd H3 so (.lst [])) := Same.upd_new hso
    refine ⟨_, rfl, ro, _, _, V.ref r, rfl, rfl, SqL.of (s4 _ _ (s35 _ _ hr1)), hr2, r, rfl, ⟨_, SqL.of (s4 _ _ (s35 _ _ hr3))⟩, for_list (K := K) (a := r) (xs := NL rq)
      (fun i σ H' => ∃ (xi rv : Nat) (sold : List Nat) (v : Option V), σ = [some (.ref p), some (.ref nu), some (.ref ro), some (nv xi), some (nv st.classes.length), some (nv (rq.length - i)), some (.ref wl), some (.ref so), some (nv rv), v] ∧ Same H3 H' ∧ H' so = some (.lst (NL sold)) ∧ sold.length = i ∧ xi ≤ x ∧
        sold ++ Vbahal.requested st (rq.length - i) xi (rq.drop i) = Vbahal.requested st rq.length x rq ∧ rv = earned st sold (rq.take i))
      ⟨x, 0, [], none, ?_, s4, upd_same, rfl, Nat.le_refl _, rfl, rfl⟩ (fun i σ H' _ ⟨_, _, _, _, _, s6, _⟩ => SqL.of (s6 _ _ (s35 _ _ hr3))) ?_ ?_⟩
    · rw [Nat.sub_zero, hc1]
      rfl
    · rintro i y σ H' hi ⟨xi, rv, sold, v, rfl, s6, hso', hsl, hxi, hreq, hrv⟩
      obtain ⟨n, hn, rfl⟩ := NL_get hi
      have hil : i < rq.length := (List.getElem?_eq_some_iff.mp hn).1
      have s36 := s35.trans s6
      refine ⟨_, rfl, _, _, rfl, rfl, ?_⟩
      have eg : ((rq.length - i : Nat) : Int) - 1 = ((rq.length - (i + 1) : Nat) : Int) := by omega
      dsimp only [List.set]
      rw [eg]
      have ed : rq.drop i = n :: rq.drop (i + 1) := by
        rw [List.drop_eq_getElem_cons hil]
        congr 1
        exact (List.getElem?_eq_some_iff.mp hn).2
      have et : rq.length - i - 1 = rq.length - (i + 1) := by omega
      rw [ed] at hreq
      obtain ⟨a, ha⟩ : ∃ a, as[rq.length - (i + 1)]? = some a := ⟨_, List.getElem?_eq_getElem (by omega)⟩
      have hWa := (hat _ a ha).same s6
      refine tIfS_of (Vbahal.accepts st (rq.length - i) xi n) (fun Qt hQ => ?_) ?_
      · refine ⟨_, rfl, _, rfl, _, _, rfl, rfl, _, rfl, ?_⟩
        refine ite2 (fun hcn => ?_) (fun hcn => ?_)
        · have hcn : n < st.classes.length := by
            have := of_decide_eq_true hcn
            omega
          obtain ⟨fr, hfr⟩ : ∃ fr, (st.classes.map (·.fare))[n]? = some fr := ⟨_, List.getElem?_eq_getElem (by rw [List.length_map]; exact hcn)⟩
          refine ⟨_, rfl, p, CP, dx, fs, _, rfl, s36 _ _ h1, T.cP, T.p_fares, h4, _, rfl, fa, _, _, _, rfl, rfl, SqL.of (s36 _ _ h6), NL_at hfr, _, rfl, _, rfl, wl, _, _, V.ref a, rfl, rfl, SqL.of (s6 _ _ hwl), atI_nat (by rw [List.getElem?_map, ha]; rfl), _, rfl, ?_⟩
          refine ⟨fr, a, xi, _, rfl, hWa, fares_ok ok fr (List.mem_of_getElem? hfr), ?_, _, rfl, ?_⟩
          · rw [(vfold_good fun r hr => ok.pgood r (List.mem_of_mem_take hr)).len]
            omega
          · have e := taken_eq (st := st) (t := rq.length - i) (x := xi) (i := n) (R := x) (by omega) (by omega) hcn (by omega) hxi
            rw [et, fareOf_at hfr] at e
            rw [e]
            exact hQ
        · have hcn : ¬ n < st.classes.length := fun h => hcn (decide_eq_true (by omega))
          rw [accepts_none hcn] at hQ
          exact hQ
      · refine ite2 (fun hac => ?_) (fun hac => ?_)
        · have hcn : n < st.classes.length := by
            by_cases h : n < st.classes.length
            · exact h
            · rw [accepts_none h] at hac
              cases hac
          have hx1 : 1 ≤ xi := by
            unfold Vbahal.accepts at hac
            rw [Bool.and_eq_true, Bool.and_eq_true] at hac
            exact of_decide_eq_true hac.2.1
          obtain ⟨fr, hfr⟩ : ∃ fr, (st.classes.map (·.fare))[n]? = some fr := ⟨_, List.getElem?_eq_getElem (by rw [List.length_map]; exact hcn)⟩
          rw [requested_yes hac, et] at hreq
          refine ⟨_, rfl, .inl ⟨rfl, _, SqL.of hso'⟩, so, _, _, rfl, rfl, hso', (by rw [NL_len, hsl]; show i < 16777216; omega), ?_⟩
          have k7 : ∀ b o, H3 b = some o → upd H' so (.lst (NL sold ++ [V.int 1])) b = some o := fun b o e => by rw [upd_ne (ne_of_none e hso)]; exact s6 _ _ e
          have k8 : Same H3 (upd H' so (.lst (NL sold ++ [V.int 1]))) := fun b o e => k7 b o e
          have s38 := s35.trans k8
          refine ⟨_, rfl, _, _, rfl, rfl, ?_⟩
          refine ⟨_, rfl, _, rfl, p, CP, dx, fs, _, rfl, s38 _ _ h1, T.cP, T.p_fares, h4, _, rfl, fa, _, _, _, rfl, rfl, SqL.of (s38 _ _ h6), NL_at hfr, _, _, rfl, rfl, ?_⟩
          refine ⟨xi - 1, rv + fr, sold ++ [1], some (nv n), ?_, k8, ?_, ?_, by omega, ?_, ?_⟩
          · show [_, _, _, some (V.int ((xi : Int) - 1)), _, _, _, _, some (V.int ((rv : Int) + (fr : Int))), _] = _
            rw [show (xi : Int) - 1 = ((xi - 1 : Nat) : Int) by omega, show (rv : Int) + (fr : Int) = ((rv + fr : Nat) : Int) by omega]
          · rw [upd_same, NL_app]
            rfl
          · rw [List.length_append, hsl]
            rfl
          · rw [List.append_assoc]
            exact hreq
          · rw [take_snoc hn, earned_snoc (by rw [hsl, List.length_take]; omega), ← hrv, fareOf_at hfr, Nat.one_mul]
        · rw [requested_no hac, et] at hreq
          refine ⟨_, rfl, .inl ⟨rfl, _, SqL.of hso'⟩, so, _, _, rfl, rfl, hso', (by rw [NL_len, hsl]; show i < 16777216; omega), ?_⟩
          refine ⟨xi, rv, sold ++ [0], some (nv n), rfl, fun b o e => by rw [upd_ne (ne_of_none e hso)]; exact s6 _ _ e, ?_, ?_, hxi, ?_, ?_⟩
          · rw [upd_same, NL_app]
            rfl
          · rw [List.length_append, hsl]
            rfl
          · rw [List.append_assoc]
            exact hreq
          · rw [take_snoc hn, earned_snoc (by rw [hsl, List.length_take]; omega), ← hrv, Nat.zero_mul, Nat.add_zero]
    · rintro σ H' ⟨xi, rv, sold, v, rfl, s6, hso', hsl, hxi, hreq, hrv⟩
      rw [NL_len] at hsl hreq hrv
      rw [List.drop_length, Nat.sub_self] at hreq
      have hreq : sold = Vbahal.requested st rq.length x rq := by
        rw [← hreq]
        show sold = sold ++ []
        rw [List.append_nil]
      rw [List.take_length] at hrv
      rw [← hreq, ← hrv] at q
      have s36 := s35.trans s6
      refine ⟨(by show 1 ≤ sizeLine; decide), fun l0 hl0 => ?_⟩
      have s7 : Same H' (upd H' l0 (.lst [V.int 0])) := Same.upd_new hl0
      refine ⟨_, rfl, l0, so, _, _, rfl, rfl, upd_same, s7 _ _ hso', ?_, fun l1 hl1 => ?_⟩
      · rw [NL_len, hsl]
        show 1 + rq.length ≤ 16777216
        omega
      have s8 := s7.trans (Same.upd_new (o := .lst ([V.int 0] ++ NL sold)) hl1)
      refine ⟨_, rfl, (by show 1 ≤ sizeLine; decide), fun l2 hl2 => ?_⟩
      have s9 := Same.upd_new (o := .lst [nv rv]) hl2
      refine ⟨l1, l2, _, _, rfl, rfl, s9 _ _ upd_same, upd_same, ?_, fun l3 hl3 => ?_⟩
      · rw [List.length_append, NL_len, hsl]
        show 1 + rq.length + 1 ≤ 16777216
        omega
      have s10 := (s36.trans s8).trans s9
      refine q _ l3 (s10.trans (Same.upd_new hl3)) (s10.free hl3) ?_
      rw [upd_same]
      unfold NL
      rw [List.map_cons, List.map_append]
      rfl
end
end Ks
namespace Ks
open PySem PySem.Spec PyProof.Rows L2
def NAMES : List Str := ["new", "demand", "observe", "value", "marginal", "protections", "decide", "play", "mean", "known", "meanknown", "chance", "asked", "period", "spanvalue", "accept", "requests", "clear", "shown"]
theorem below {p : Nat → Prop} (h0 : p 0) (h1 : p 1) (h2 : p 2) (h3 : p 3) (h4 : p 4) (h5 : p 5) (h6 : p 6) (h7 : p 7) (h8 : p 8) (h9 : p 9) (h10 : p 10) (h11 : p 11) (h12 : p 12) (h13 : p 13) (h14 : p 14) (h15 : p 15) (h16 : p 16) (h17 : p 17) (h18 : p 18) : ∀ n, n < 19 → p n := by
  intro n hn
  have : n = 0 ∨ n = 1 ∨ n = 2 ∨ n = 3 ∨ n = 4 ∨ n = 5 ∨ n = 6 ∨ n = 7 ∨ n = 8 ∨ n = 9 ∨ n = 10 ∨ n = 11 ∨ n = 12 ∨ n = 13 ∨ n = 14 ∨ n = 15 ∨ n = 16 ∨ n = 17 ∨ n = 18 := by omega
  rcases this with rfl | rfl | rfl | rfl | rfl | rfl | rfl | rfl | rfl | rfl | rfl | rfl | rfl | rfl | rfl | rfl | rfl | rfl | rfl
  · exact h0
  · exact h1
  · exact h2
  · exact h3
  · exact h4
  · exact h5
  · exact h6
  · exact h7
  · exact h8
  · exact h9
  · exact h10
  · exact h11
  · exact h12
  · exact h13
  · exact h14
  · exact h15
  · exact h16
  · exact h17
  · exact h18
theorem chain {P : Program} {w : World} {K : PySem.W.Frag} {mg : Str → Option Value} {base : Heap} {CW CC CP FA NA HA : Addr} {hs : List Addr} (T : Txt K mg CW CC CP)
    (I_Worth : ClIn K mg "Worth" "Worth.__init__" s_init_Worth ["self", "above", "below"] CW)
    (I_Call : ClIn K mg "Call" "Call.__init__" s_init_Call ["self", "place", "numbers", "rows", "end"] CC)
    (I_Plan : ClIn K mg "Plan" "Plan.__init__" s_init_Plan ["self"] CP)
    (F_common_divisor : FnIn K mg "common_divisor" s_common_divisor ["a", "b"])
    (F_lowest_terms : FnIn K mg "lowest_terms" s_lowest_terms ["above", "below"])
    (F_sold_of : FnIn K mg "sold_of" s_sold_of ["asked", "left", "kept"])
    (F_best_sum : FnIn K mg "best_sum" s_best_sum ["gain", "weights", "later", "x"])
    (F_kept_sum : FnIn K mg "kept_sum" s_kept_sum ["gain", "weights", "later", "x", "kept"])
    (F_no_worth : FnIn K mg "no_worth" s_no_worth ["seats"])
    (F_best_worths : FnIn K mg "best_worths" s_best_worths ["fares", "weights", "seats"])
    (F_kept_worth : FnIn K mg "kept_worth" s_kept_worth ["fares", "weights", "seats", "kept"])
    (F_protection : FnIn K mg "protection" s_protection ["worth", "fare"])
    (F_best_kept : FnIn K mg "best_kept" s_best_kept ["fares", "weights", "seats"])
    (F_worth_to : FnIn K mg "worth_to" s_worth_to ["plan", "i", "x"])
    (F_value : FnIn K mg "value" s_value ["plan", "numbers", "rows"])
    (F_marginal : FnIn K mg "marginal" s_marginal ["plan", "numbers", "rows"])
    (F_protections : FnIn K mg "protections" s_protections ["plan", "numbers", "rows"])
    (F_kept_from : FnIn K mg "kept_from" s_kept_from ["kept"])
    (F_decide : FnIn K mg "decide" s_decide ["plan", "numbers", "rows"])
    (F_with_revenue : FnIn K mg "with_revenue" s_with_revenue ["plan", "sold"])
    (F_known : FnIn K mg "known" s_known ["plan", "numbers", "rows"])
    (F_play : FnIn K mg "play" s_play ["plan", "numbers", "rows"])
    (F_mean : FnIn K mg "mean" s_mean ["plan", "numbers", "rows"])
    (F_demand : FnIn K mg "demand" s_demand ["plan", "numbers", "rows"])
    (F_observe : FnIn K mg "observe" s_observe ["plan", "numbers", "rows"])
    (F_new : FnIn K mg "new" s_new ["plan", "numbers", "rows"])
    (F_period_sum : FnIn K mg "period_sum" s_period_sum ["gains", "weights", "later", "x"])
    (F_period_worth : FnIn K mg "period_worth" s_period_worth ["fares", "weights", "later"])
    (F_is_taken : FnIn K mg "is_taken" s_is_taken ["fare", "later", "x"])
    (F_span_worths : FnIn K mg "span_worths" s_span_worths ["fares", "periods", "seats"])
    (F_span_refused : FnIn K mg "span_refused" s_span_refused ["plan", "t", "x"])
    (F_span_worth : FnIn K mg "span_worth" s_span_worth ["plan", "t", "x"])
    (F_meanknown : FnIn K mg "meanknown" s_meanknown ["plan", "numbers", "rows"])
    (F_chance : FnIn K mg "chance" s_chance ["plan", "numbers", "rows"])
    (F_asked : FnIn K mg "asked" s_asked ["plan", "numbers", "rows"])
    (F_period : FnIn K mg "period" s_period ["plan", "numbers", "rows"])
    (F_spanvalue : FnIn K mg "spanvalue" s_spanvalue ["plan", "numbers", "rows"])
    (F_accept : FnIn K mg "accept" s_accept ["plan", "numbers", "rows"])
    (F_requests : FnIn K mg "requests" s_requests ["plan", "numbers", "rows"])
    (F_clear : FnIn K mg "clear" s_clear ["plan", "numbers", "rows"])
    (F_shown : FnIn K mg "shown" s_shown ["plan", "numbers", "rows"])
    (F_in_ranges : FnIn K mg "in_ranges" s_in_ranges ["call"])
    (F_read_call : FnIn K mg "read_call" s_read_call ["calls", "start"])
    (F_refused : FnIn K mg "refused" s_refused ["plan", "call"])
    (F_answer : FnIn K mg "answer" s_answer ["plan", "call"])
    (F_answers : FnIn K mg "answers" s_answers ["calls"])
    (g_FORMS : mg "FORMS" = some (.ref FA)) (hF : FormsAt K FA FORMS19) (g_NEW : ∃ t, mg "NEW" = some (.int 0 t)) (g_MOST_PERIODS : ∃ t, mg "MOST_PERIODS" = some (.int 20 t)) (g_NAMING_A_CLASS : mg "NAMING_A_CLASS" = some (.ref NA)) (hN : KT K NA (NL NAMING))
    (g_HANDLERS : mg "HANDLERS" = some (.ref HA)) (hH : KT K HA (hs.map V.ref)) (hJ : ∀ (j : Nat) (y : Str) (f : Addr), NAMES[j]? = some y → mg y = some (.ref f) → hs[j]? = some f)
    : FnDo P w K mg base 21 "answers" s_answers ["calls"] (spAnswers K) := by
  have GI_Worth := ok_init_Worth (P := P) (w := w) (base := base) I_Worth T
  have GI_Call := ok_init_Call (P := P) (w := w) (base := base) I_Call T
  have GI_Plan := ok_init_Plan (P := P) (w := w) (base := base) I_Plan T
  have G_common_divisor := ok_common_divisor (P := P) (w := w) (base := base) F_common_divisor T
  have G_lowest_terms := ok_lowest_terms (P := P) (w := w) (base := base) F_lowest_terms T (by assumption)
  have G_sold_of := ok_sold_of (P := P) (w := w) (base := base) F_sold_of T
  have G_best_sum := ok_best_sum (P := P) (w := w) (base := base) F_best_sum T
  have G_kept_sum := ok_kept_sum (P := P) (w := w) (base := base) F_kept_sum T (by assumption)
  have G_no_worth := ok_no_worth (P := P) (w := w) (base := base) F_no_worth T (by assumption)
  have G_best_worths := ok_best_worths (P := P) (w := w) (base := base) F_best_worths T (by assumption) (by assumption) (by assumption)
  have G_kept_worth := ok_kept_worth (P := P) (w := w) (base := base) F_kept_worth T (by assumption) (by assumption) (by assumption)
  have G_protection := ok_protection (P := P) (w := w) (base := base) F_protection T
  have G_best_kept := ok_best_kept (P := P) (w := w) (base := base) F_best_kept T (by assumption) (by assumption)
  have G_worth_to := ok_worth_to (P := P) (w := w) (base := base) F_worth_to T (by assumption)
  have G_value := ok_value (P := P) (w := w) (base := base) F_value T (by assumption) (by assumption)
  have G_marginal := ok_marginal (P := P) (w := w) (base := base) F_marginal T (by assumption) (by assumption)
  have G_protections := ok_protections (P := P) (w := w) (base := base) F_protections T (by assumption)
  have G_kept_from := ok_kept_from (P := P) (w := w) (base := base) F_kept_from T
  have G_decide := ok_decide (P := P) (w := w) (base := base) F_decide T (by assumption) (by assumption) (by assumption)
  have G_with_revenue := ok_with_revenue (P := P) (w := w) (base := base) F_with_revenue T
  have G_known := ok_known (P := P) (w := w) (base := base) F_known T (by assumption)
  have G_play := ok_play (P := P) (w := w) (base := base) F_play T (by assumption) (by assumption) (by assumption) (by assumption)
  have G_mean := ok_mean (P := P) (w := w) (base := base) F_mean T (by assumption) (by assumption) (by assumption)
  have G_demand := ok_demand (P := P) (w := w) (base := base) F_demand T
  have G_observe := ok_observe (P := P) (w := w) (base := base) F_observe T
  have G_new := ok_new (P := P) (w := w) (base := base) F_new T
  have G_period_sum := ok_period_sum (P := P) (w := w) (base := base) F_period_sum T
  have G_period_worth := ok_period_worth (P := P) (w := w) (base := base) F_period_worth T (by assumption) (by assumption)
  have G_is_taken := ok_is_taken (P := P) (w := w) (base := base) F_is_taken T
  have G_span_worths := ok_span_worths (P := P) (w := w) (base := base) F_span_worths T (by assumption) (by assumption)
  have G_span_refused := ok_span_refused (P := P) (w := w) (base := base) F_span_refused T
  have G_span_worth := ok_span_worth (P := P) (w := w) (base := base) F_span_worth T (by assumption)
  have G_meanknown := ok_meanknown (P := P) (w := w) (base := base) F_meanknown T (by assumption) (by assumption)
  have G_chance := ok_chance (P := P) (w := w) (base := base) F_chance T (by assumption)
  have G_asked := ok_asked (P := P) (w := w) (base := base) F_asked T (by assumption)
  have G_period := ok_period (P := P) (w := w) (base := base) F_period T (by assumption)
  have G_spanvalue := ok_spanvalue (P := P) (w := w) (base := base) F_spanvalue T (by assumption) (by assumption) (by assumption)
  have G_accept := ok_accept (P := P) (w := w) (base := base) F_accept T (by assumption) (by assumption) (by assumption)
  have G_requests := ok_requests (P := P) (w := w) (base := base) F_requests T (by assumption) (by assumption)
  have G_clear := ok_clear (P := P) (w := w) (base := base) F_clear T
  have G_shown := ok_shown (P := P) (w := w) (base := base) F_shown T
  have H_0 : ∃ a, mg "new" = some (.ref a) ∧ HandlerOk P w K mg base CP NAMING 0 a := FnDo.handler G_new (by decide) fun _ _ _ _ z => mut_hand (fun _ _ _ _ h hk => pl_0 h) z
  have H_1 : ∃ a, mg "demand" = some (.ref a) ∧ HandlerOk P w K mg base CP NAMING 1 a := FnDo.handler G_demand (by decide) fun _ _ _ _ z => mut_hand (fun _ _ _ _ h hk => pl_1 h) z
  have H_2 : ∃ a, mg "observe" = some (.ref a) ∧ HandlerOk P w K mg base CP NAMING 2 a := FnDo.handler G_observe (by decide) fun _ _ _ _ z => mut_hand (fun _ _ _ _ h hk => pl_2 h) z
  have H_3 : ∃ a, mg "value" = some (.ref a) ∧ HandlerOk P w K mg base CP NAMING 3 a := FnDo.handler G_value (by decide) fun _ _ _ _ z => ro_hand (fun _ _ _ _ h hk => pl_3 h) (by decide) z
  have H_4 : ∃ a, mg "marginal" = some (.ref a) ∧ HandlerOk P w K mg base CP NAMING 4 a := FnDo.handler G_marginal (by decide) fun _ _ _ _ z => ro_hand (fun _ _ _ _ h hk => pl_4 h hk) (by decide) z
  have H_5 : ∃ a, mg "protections" = some (.ref a) ∧ HandlerOk P w K mg base CP NAMING 5 a := FnDo.handler G_protections (by decide) fun _ _ _ _ z => ro_hand (fun _ _ _ _ h hk => pl_5 h) (by decide) z
  have H_6 : ∃ a, mg "decide" = some (.ref a) ∧ HandlerOk P w K mg base CP NAMING 6 a := FnDo.handler G_decide (by decide) fun _ _ _ _ z => ro_hand (fun _ _ _ _ h hk => pl_6 h) (by decide) z
  have H_7 : ∃ a, mg "play" = some (.ref a) ∧ HandlerOk P w K mg base CP NAMING 7 a := FnDo.handler G_play (by decide) fun _ _ _ _ z => ro_hand (fun _ _ _ _ h hk => pl_7 h hk) (by decide) z
  have H_8 : ∃ a, mg "mean" = some (.ref a) ∧ HandlerOk P w K mg base CP NAMING 8 a := FnDo.handler G_mean (by decide) fun _ _ _ _ z => ro_hand (fun _ _ _ _ h hk => pl_8 h hk) (by decide) z
  have H_9 : ∃ a, mg "known" = some (.ref a) ∧ HandlerOk P w K mg base CP NAMING 9 a := FnDo.handler G_known (by decide) fun _ _ _ _ z => ro_hand (fun _ _ _ _ h hk => pl_9 h hk) (by decide) z
  have H_10 : ∃ a, mg "meanknown" = some (.ref a) ∧ HandlerOk P w K mg base CP NAMING 10 a := FnDo.handler G_meanknown (by decide) fun _ _ _ _ z => rp_hand (fun _ _ _ _ h hk => pl_10 h) (by decide) z
  have H_11 : ∃ a, mg "chance" = some (.ref a) ∧ HandlerOk P w K mg base CP NAMING 11 a := FnDo.handler G_chance (by decide) fun _ _ _ _ z => rp_hand (fun _ _ _ _ h hk => pl_11 h) (by decide) z
  have H_12 : ∃ a, mg "asked" = some (.ref a) ∧ HandlerOk P w K mg base CP NAMING 12 a := FnDo.handler G_asked (by decide) fun _ _ _ _ z => rp_hand (fun _ _ _ _ h hk => pl_12 h) (by decide) z
  have H_13 : ∃ a, mg "period" = some (.ref a) ∧ HandlerOk P w K mg base CP NAMING 13 a := FnDo.handler G_period (by decide) fun _ _ _ _ z => mut_hand (fun _ _ _ _ h hk => pl_13 h) z
  have H_14 : ∃ a, mg "spanvalue" = some (.ref a) ∧ HandlerOk P w K mg base CP NAMING 14 a := FnDo.handler G_spanvalue (by decide) fun _ _ _ _ z => rp_hand (fun _ _ _ _ h hk => pl_14 h) (by decide) z
  have H_15 : ∃ a, mg "accept" = some (.ref a) ∧ HandlerOk P w K mg base CP NAMING 15 a := FnDo.handler G_accept (by decide) fun _ _ _ _ z => rp_hand (fun _ _ _ _ h hk => pl_15 h hk) (by decide) z
  have H_16 : ∃ a, mg "requests" = some (.ref a) ∧ HandlerOk P w K mg base CP NAMING 16 a := FnDo.handler G_requests (by decide) fun _ _ _ _ z => rp_hand (fun _ _ _ _ h hk => pl_16 h hk) (by decide) z
  have H_17 : ∃ a, mg "clear" = some (.ref a) ∧ HandlerOk P w K mg base CP NAMING 17 a := FnDo.handler G_clear (by decide) fun _ _ _ _ z => mut_hand (fun _ _ _ _ h hk => pl_17 h) z
  have H_18 : ∃ a, mg "shown" = some (.ref a) ∧ HandlerOk P w K mg base CP NAMING 18 a := FnDo.handler G_shown (by decide) fun _ _ _ _ z => rp_hand (fun _ _ _ _ h hk => pl_18 h) (by decide) z
  have hB : ∀ pl, pl < 19 → ∃ y, NAMES[pl]? = some y ∧ ∃ a, mg y = some (.ref a) ∧ HandlerOk P w K mg base CP NAMING pl a := below ⟨_, rfl, H_0⟩ ⟨_, rfl, H_1⟩ ⟨_, rfl, H_2⟩ ⟨_, rfl, H_3⟩ ⟨_, rfl, H_4⟩ ⟨_, rfl, H_5⟩ ⟨_, rfl, H_6⟩ ⟨_, rfl, H_7⟩ ⟨_, rfl, H_8⟩ ⟨_, rfl, H_9⟩ ⟨_, rfl, H_10⟩ ⟨_, rfl, H_11⟩ ⟨_, rfl, H_12⟩ ⟨_, rfl, H_13⟩ ⟨_, rfl, H_14⟩ ⟨_, rfl, H_15⟩ ⟨_, rfl, H_16⟩ ⟨_, rfl, H_17⟩ ⟨_, rfl, H_18⟩
  have hO : ∀ (pl : Nat) (f : Form), FORMS19[pl]? = some f → ∃ h, hs[pl]? = some h ∧ HandlerOk P w K mg base CP NAMING pl h := fun pl f e => by
    obtain ⟨y, h1, a, h2, h3⟩ := hB pl (List.getElem?_eq_some_iff.mp e).1
    exact ⟨a, hJ pl y a h1 h2, h3⟩
  have G_in_ranges := ok_in_ranges (P := P) (w := w) (base := base) F_in_ranges T g_FORMS hF
  have G_read_call := ok_read_call (P := P) (w := w) (base := base) F_read_call T g_FORMS hF shape_ok GI_Call
  have G_refused := ok_refused (P := P) (w := w) (base := base) F_refused T G_in_ranges g_NEW g_NAMING_A_CLASS hN
  have G_answer := ok_answer (P := P) (w := w) (base := base) F_answer T G_refused g_HANDLERS hH hO
  exact ok_answers F_answers T GI_Plan G_read_call G_answer
theorem end_mk {P : Program} {w : World} {K : PySem.W.Frag} {mg : Str → Option Value} {x : Str} {st : Stmt} {ps : List Str} {sp : Sp} {k : Nat} {fa : Addr} (F : FnIn K mg x st ps)
    (hb : ∀ (kV doc pm : Value) (an : Option Addr) (cdv ct : Value) (us : List Value), us.length = ps.length → bindArgs (PySem.W.fnOf x x (defArgs st) (defBody st) (defScope st) .none kV doc pm an cdv ct) ⟨us, []⟩ = pure (ps.zip us))
    (m : mg x = some (.ref fa)) (D : ∀ base : Heap, FnDo P w K mg base k x st ps sp) :
    ∃ fd : FuncData, (∀ (s : Shared) (us : List Value), us.length = ps.length → BindsTo s fd ⟨us, []⟩ (ps.zip us)) ∧ ∀ base : Heap, K.In base → base.Ns mainGlobals mg → FnOk P w K mg base CX0 k fa fd ps sp := by
  obtain ⟨f, fd, F0, m0, _⟩ := F
  rw [m] at m0
  cases m0
  refine ⟨fd, ?_, fun base _ _ => FnDo.at (D base) F0 m⟩
  obtain ⟨oc, od, kV, doc, pm, an, cdv, ct, osl, rfl, lk, hcd⟩ := F0.ex
  intro s us hl
  exact .of_eq (hb kV doc pm an cdv ct us hl)
end Ks
namespace Ks
open PySem PySem.Spec PyProof.Rows L2
noncomputable def KF (P : Params) : PySem.W.Frag :=
  (nat_lit 2, { cls := Value.none, data := Data.dict #[] }) ::
  (nat_lit 3, { cls := Value.type "dict", data := Data.dict #[{ hash := PyData.keyHash P (Str.ofString "__name__"), key := Value.str (Str.ofString "__name__") 165, val := Value.str (Str.ofString "keptseats.plan") 476 }, { hash := PyData.keyHash P (Str.ofString "__doc__"), key := Value.str (Str.ofString "__doc__") 166, val := Value.none }, { hash := PyData.keyHash P (Str.ofString "__package__"), key := Value.str (Str.ofString "__package__") 167, val := Value.none }, { hash := PyData.keyHash P (Str.ofString "__loader__"), key := Value.str (Str.ofString "__loader__") 168, val := Value.builtin "__main__.__loader__#opaque" }, { hash := PyData.keyHash P (Str.ofString "__spec__"), key := Value.str (Str.ofString "__spec__") 169, val := Value.none }, { hash := PyData.keyHash P (Str.ofString "__annotations__"), key := Value.str (Str.ofString "__annotations__") 170, val := Value.ref 6 }, { hash := PyData.keyHash P (Str.ofString "__builtins__"), key := Value.str (Str.ofString "__builtins__") 171, val := Value.ref 4 }, { hash := PyData.keyHash P (Str.ofString "__file__"), key := Value.str (Str.ofString "__file__") 173, val := Value.str (Str.ofString "/claim/cut.py") 172 }, { hash := PyData.keyHash P (Str.ofString "__cached__"), key := Value.str (Str.ofString "__cached__") 174, val := Value.none }, { hash := PyData.keyHash P (Str.ofString "FORMS"), key := Value.str (Str.ofString "FORMS") 255, val := Value.ref 98 }, { hash := PyData.keyHash P (Str.ofString "Call"), key := Value.str (Str.ofString "Call") 290, val := Value.ref 115 }, { hash := PyData.keyHash P (Str.ofString "read_call"), key := Value.str (Str.ofString "read_call") 304, val := Value.ref 126 }, { hash := PyData.keyHash P (Str.ofString "in_ranges"), key := Value.str (Str.ofString "in_ranges") 310, val := Value.ref 131 }, { hash := PyData.keyHash P (Str.ofString "Worth"), key := Value.str (Str.ofString "Worth") 343, val := Value.ref 148 }, { hash := PyData.keyHash P (Str.ofString "no_worth"), key := Value.str (Str.ofString "no_worth") 350, val := Value.ref 159 }, { hash := PyData.keyHash P (Str.ofString "common_divisor"), key := Value.str (Str.ofString "common_divisor") 359, val := Value.ref 166 }, { hash := PyData.keyHash P (Str.ofString "lowest_terms"), key := Value.str (Str.ofString "lowest_terms") 368, val := Value.ref 173 }, { hash := PyData.keyHash P (Str.ofString "sold_of"), key := Value.str (Str.ofString "sold_of") 377, val := Value.ref 180 }, { hash := PyData.keyHash P (Str.ofString "best_sum"), key := Value.str (Str.ofString "best_sum") 391, val := Value.ref 187 }, { hash := PyData.keyHash P (Str.ofString "kept_sum"), key := Value.str (Str.ofString "kept_sum") 406, val := Value.ref 194 }, { hash := PyData.keyHash P (Str.ofString "best_worths"), key := Value.str (Str.ofString "best_worths") 412, val := Value.ref 199 }, { hash := PyData.keyHash P (Str.ofString "kept_worth"), key := Value.str (Str.ofString "kept_worth") 418, val := Value.ref 204 }, { hash := PyData.keyHash P (Str.ofString "protection"), key := Value.str (Str.ofString "protection") 428, val := Value.ref 211 }, { hash := PyData.keyHash P (Str.ofString "best_kept"), key := Value.str (Str.ofString "best_kept") 434, val := Value.ref 216 }, { hash := PyData.keyHash P (Str.ofString "period_sum"), key := Value.str (Str.ofString "period_sum") 449, val := Value.ref 223 }, { hash := PyData.keyHash P (Str.ofString "period_worth"), key := Value.str (Str.ofString "period_worth") 455, val := Value.ref 228 }, { hash := PyData.keyHash P (Str.ofString "span_worths"), key := Value.str (Str.ofString "span_worths") 466, val := Value.ref 235 }, { hash := PyData.keyHash P (Str.ofString "is_taken"), key := Value.str (Str.ofString "is_taken") 475, val := Value.ref 242 }, { hash := PyData.keyHash P (Str.ofString "NEW"), key := Value.str (Str.ofString "NEW") 479, val := Value.int 0 478 }, { hash := PyData.keyHash P (Str.ofString "NAMING_A_CLASS"), key := Value.str (Str.ofString "NAMING_A_CLASS") 487, val := Value.ref 243 }, { hash := PyData.keyHash P (Str.ofString "MOST_PERIODS"), key := Value.str (Str.ofString "MOST_PERIODS") 489, val := Value.int 20 488 }, { hash := PyData.keyHash P (Str.ofString "Plan"), key := Value.str (Str.ofString "Plan") 520, val := Value.ref 260 }, { hash := PyData.keyHash P (Str.ofString "new"), key := Value.str (Str.ofString "new") 526, val := Value.ref 269 }, { hash := PyData.keyHash P (Str.ofString "demand"), key := Value.str (Str.ofString "demand") 535, val := Value.ref 276 }, { hash := PyData.keyHash P (Str.ofString "observe"), key := Value.str (Str.ofString "observe") 546, val := Value.ref 283 }, { hash := PyData.keyHash P (Str.ofString "worth_to"), key := Value.str (Str.ofString "worth_to") 556, val := Value.ref 290 }, { hash := PyData.keyHash P (Str.ofString "value"), key := Value.str (Str.ofString "value") 567, val := Value.ref 297 }, { hash := PyData.keyHash P (Str.ofString "marginal"), key := Value.str (Str.ofString "marginal") 578, val := Value.ref 304 }, { hash := PyData.keyHash P (Str.ofString "protections"), key := Value.str (Str.ofString "protections") 587, val := Value.ref 311 }, { hash := PyData.keyHash P (Str.ofString "kept_from"), key := Value.str (Str.ofString "kept_from") 594, val := Value.ref 318 }, { hash := PyData.keyHash P (Str.ofString "decide"), key := Value.str (Str.ofString "decide") 606, val := Value.ref 325 }, { hash := PyData.keyHash P (Str.ofString "with_revenue"), key := Value.str (Str.ofString "with_revenue") 612, val := Value.ref 330 }, { hash := PyData.keyHash P (Str.ofString "play"), key := Value.str (Str.ofString "play") 627, val := Value.ref 337 }, { hash := PyData.keyHash P (Str.ofString "mean"), key := Value.str (Str.ofString "mean") 637, val := Value.ref 344 }, { hash := PyData.keyHash P (Str.ofString "known"), key := Value.str (Str.ofString "known") 650, val := Value.ref 351 }, { hash := PyData.keyHash P (Str.ofString "meanknown"), key := Value.str (Str.ofString "meanknown") 662, val := Value.ref 358 }, { hash := PyData.keyHash P (Str.ofString "chance"), key := Value.str (Str.ofString "chance") 672, val := Value.ref 365 }, { hash := PyData.keyHash P (Str.ofString "asked"), key := Value.str (Str.ofString "asked") 678, val := Value.ref 370 }, { hash := PyData.keyHash P (Str.ofString "period"), key := Value.str (Str.ofString "period") 688, val := Value.ref 377 }, { hash := PyData.keyHash P (Str.ofString "span_refused"), key := Value.str (Str.ofString "span_refused") 697, val := Value.ref 384 }, { hash := PyData.keyHash P (Str.ofString "span_worth"), key := Value.str (Str.ofString "span_worth") 706, val := Value.ref 391 }, { hash := PyData.keyHash P (Str.ofString "spanvalue"), key := Value.str (Str.ofString "spanvalue") 719, val := Value.ref 398 }, { hash := PyData.keyHash P (Str.ofString "accept"), key := Value.str (Str.ofString "accept") 725, val := Value.ref 403 }, { hash := PyData.keyHash P (Str.ofString "requests"), key := Value.str (Str.ofString "requests") 731, val := Value.ref 408 }, { hash := PyData.keyHash P (Str.ofString "clear"), key := Value.str (Str.ofString "clear") 740, val := Value.ref 415 }, { hash := PyData.keyHash P (Str.ofString "shown"), key := Value.str (Str.ofString "shown") 749, val := Value.ref 422 }, { hash := PyData.keyHash P (Str.ofString "HANDLERS"), key := Value.str (Str.ofString "HANDLERS") 750, val := Value.ref 423 }, { hash := PyData.keyHash P (Str.ofString "refused"), key := Value.str (Str.ofString "refused") 758, val := Value.ref 430 }, { hash := PyData.keyHash P (Str.ofString "answer"), key := Value.str (Str.ofString "answer") 768, val := Value.ref 437 }, { hash := PyData.keyHash P (Str.ofString "answers"), key := Value.str (Str.ofString "answers") 780, val := Value.ref 444 }] 60 }) ::
  (nat_lit 15, { cls := Value.type "tuple", data := Data.seq #[Value.int 0 189, Value.int 60 190] }) ::
  (nat_lit 16, { cls := Value.type "tuple", data := Data.seq #[Value.ref 15] }) ::
  (nat_lit 17, { cls := Value.type "tuple", data := Data.seq #[Value.int 1 191, Value.int 8 192, Value.int 1 193, Value.int 1000000 194] }) ::
  (nat_lit 18, { cls := Value.type "tuple", data := Data.seq #[Value.ref 17] }) ::
  (nat_lit 19, { cls := Value.type "tuple", data := Data.seq #[Value.ref 16, Value.ref 18] }) ::
  (nat_lit 20, { cls := Value.type "tuple", data := Data.seq #[Value.int 0 195, Value.int 7 196] }) ::
  (nat_lit 21, { cls := Value.type "tuple", data := Data.seq #[Value.ref 20] }) ::
  (nat_lit 22, { cls := Value.type "tuple", data := Data.seq #[Value.int 1 197, Value.int 21 198, Value.int 0 199, Value.int 1000 200] }) ::
  (nat_lit 23, { cls := Value.type "tuple", data := Data.seq #[Value.ref 22] }) ::
  (nat_lit 24, { cls := Value.type "tuple", data := Data.seq #[Value.ref 21, Value.ref 23] }) ::
  (nat_lit 25, { cls := Value.type "tuple", data := Data.seq #[Value.int 0 201, Value.int 7 202] }) ::
  (nat_lit 26, { cls := Value.type "tuple", data := Data.seq #[Value.int 0 203, Value.int 20 204] }) ::
  (nat_lit 27, { cls := Value.type "tuple", data := Data.seq #[Value.ref 25, Value.ref 26] }) ::
  (nat_lit 28, { cls := Value.type "tuple", data := Data.seq #[] }) ::
  (nat_lit 29, { cls := Value.type "tuple", data := Data.seq #[Value.ref 27, Value.ref 28] }) ::
  (nat_lit 30, { cls := Value.type "tuple", data := Data.seq #[Value.int 0 205, Value.int 7 206] }) ::
  (nat_lit 31, { cls := Value.type "tuple", data := Data.seq #[Value.int 0 207, Value.int 60 208] }) ::
  (nat_lit 32, { cls := Value.type "tuple", data := Data.seq #[Value.ref 30, Value.ref 31] }) ::
  (nat_lit 33, { cls := Value.type "tuple", data := Data.seq #[] }) ::
  (nat_lit 34, { cls := Value.type "tuple", data := Data.seq #[Value.ref 32, Value.ref 33] }) ::
  (nat_lit 35, { cls := Value.type "tuple", data := Data.seq #[Value.int 0 209, Value.int 7 210] }) ::
  (nat_lit 36, { cls := Value.type "tuple", data := Data.seq #[Value.int 1 211, Value.int 60 212] }) ::
  (nat_lit 37, { cls := Value.type "tuple", data := Data.seq #[Value.ref 35, Value.ref 36] }) ::
  (nat_lit 38, { cls := Value.type "tuple", data := Data.seq #[] }) ::
  (nat_lit 39, { cls := Value.type "tuple", data := Data.seq #[Value.ref 37, Value.ref 38] }) ::
  (nat_lit 40, { cls := Value.type "tuple", data := Data.seq #[] }) ::
  (nat_lit 41, { cls := Value.type "tuple", data := Data.seq #[] }) ::
  (nat_lit 42, { cls := Value.type "tuple", data := Data.seq #[Value.ref 40, Value.ref 41] }) ::
  (nat_lit 43, { cls := Value.type "tuple", data := Data.seq #[Value.int 0 213, Value.int 7 214] }) ::
  (nat_lit 44, { cls := Value.type "tuple", data := Data.seq #[Value.int 0 215, Value.int 60 216] }) ::
  (nat_lit 45, { cls := Value.type "tuple", data := Data.seq #[Value.int 0 217, Value.int 60 218] }) ::
  (nat_lit 46, { cls := Value.type "tuple", data := Data.seq #[Value.ref 43, Value.ref 44, Value.ref 45] }) ::
  (nat_lit 47, { cls := Value.type "tuple", data := Data.seq #[] }) ::
  (nat_lit 48, { cls := Value.type "tuple", data := Data.seq #[Value.ref 46, Value.ref 47] }) ::
  (nat_lit 49, { cls := Value.type "tuple", data := Data.seq #[] }) ::
  (nat_lit 50, { cls := Value.type "tuple", data := Data.seq #[Value.int 1 219, Value.int 8 220, Value.int 0 221, Value.int 60 222] }) ::
  (nat_lit 51, { cls := Value.type "tuple", data := Data.seq #[Value.ref 50] }) ::
  (nat_lit 52, { cls := Value.type "tuple", data := Data.seq #[Value.ref 49, Value.ref 51] }) ::
  (nat_lit 53, { cls := Value.type "tuple", data := Data.seq #[] }) ::
  (nat_lit 54, { cls := Value.type "tuple", data := Data.seq #[Value.int 0 223, Value.int 7 224, Value.int 0 225, Value.int 60 226] }) ::
  (nat_lit 55, { cls := Value.type "tuple", data := Data.seq #[Value.ref 54] }) ::
  (nat_lit 56, { cls := Value.type "tuple", data := Data.seq #[Value.ref 53, Value.ref 55] }) ::
  (nat_lit 57, { cls := Value.type "tuple", data := Data.seq #[] }) ::
  (nat_lit 58, { cls := Value.type "tuple", data := Data.seq #[Value.int 1 227, Value.int 8 228, Value.int 0 229, Value.int 60 230] }) ::
  (nat_lit 59, { cls := Value.type "tuple", data := Data.seq #[Value.ref 58] }) ::
  (nat_lit 60, { cls := Value.type "tuple", data := Data.seq #[Value.ref 57, Value.ref 59] }) ::
  (nat_lit 61, { cls := Value.type "tuple", data := Data.seq #[] }) ::
  (nat_lit 62, { cls := Value.type "tuple", data := Data.seq #[] }) ::
  (nat_lit 63, { cls := Value.type "tuple", data := Data.seq #[Value.ref 61, Value.ref 62] }) ::
  (nat_lit 64, { cls := Value.type "tuple", data := Data.seq #[Value.int 0 231, Value.int 7 232] }) ::
  (nat_lit 65, { cls := Value.type "tuple", data := Data.seq #[Value.int 0 233, Value.int 60 234] }) ::
  (nat_lit 66, { cls := Value.type "tuple", data := Data.seq #[Value.ref 64, Value.ref 65] }) ::
  (nat_lit 67, { cls := Value.type "tuple", data := Data.seq #[] }) ::
  (nat_lit 68, { cls := Value.type "tuple", data := Data.seq #[Value.ref 66, Value.ref 67] }) ::
  (nat_lit 69, { cls := Value.type "tuple", data := Data.seq #[Value.int 0 235, Value.int 7 236] }) ::
  (nat_lit 70, { cls := Value.type "tuple", data := Data.seq #[Value.ref 69] }) ::
  (nat_lit 71, { cls := Value.type "tuple", data := Data.seq #[] }) ::
  (nat_lit 72, { cls := Value.type "tuple", data := Data.seq #[Value.ref 70, Value.ref 71] }) ::
  (nat_lit 73, { cls := Value.type "tuple", data := Data.seq #[] }) ::
  (nat_lit 74, { cls := Value.type "tuple", data := Data.seq #[Value.int 2 237, Value.int 9 238, Value.int 0 239, Value.int 1000 240] }) ::
  (nat_lit 75, { cls := Value.type "tuple", data := Data.seq #[Value.ref 74] }) ::
  (nat_lit 76, { cls := Value.type "tuple", data := Data.seq #[Value.ref 73, Value.ref 75] }) ::
  (nat_lit 77, { cls := Value.type "tuple", data := Data.seq #[Value.int 0 241, Value.int 20 242] }) ::
  (nat_lit 78, { cls := Value.type "tuple", data := Data.seq #[Value.int 0 243, Value.int 60 244] }) ::
  (nat_lit 79, { cls := Value.type "tuple", data := Data.seq #[Value.ref 77, Value.ref 78] }) ::
  (nat_lit 80, { cls := Value.type "tuple", data := Data.seq #[] }) ::
  (nat_lit 81, { cls := Value.type "tuple", data := Data.seq #[Value.ref 79, Value.ref 80] }) ::
  (nat_lit 82, { cls := Value.type "tuple", data := Data.seq #[Value.int 1 245, Value.int 20 246] }) ::
  (nat_lit 83, { cls := Value.type "tuple", data := Data.seq #[Value.int 0 247, Value.int 60 248] }) ::
  (nat_lit 84, { cls := Value.type "tuple", data := Data.seq #[Value.ref 82, Value.ref 83] }) ::
  (nat_lit 85, { cls := Value.type "tuple", data := Data.seq #[] }) ::
  (nat_lit 86, { cls := Value.type "tuple", data := Data.seq #[Value.ref 84, Value.ref 85] }) ::
  (nat_lit 87, { cls := Value.type "tuple", data := Data.seq #[Value.int 0 249, Value.int 60 250] }) ::
  (nat_lit 88, { cls := Value.type "tuple", data := Data.seq #[Value.ref 87] }) ::
  (nat_lit 89, { cls := Value.type "tuple", data := Data.seq #[Value.int 0 251, Value.int 20 252, Value.int 0 253, Value.int 8 254] }) ::
  (nat_lit 90, { cls := Value.type "tuple", data := Data.seq #[Value.ref 89] }) ::
  (nat_lit 91, { cls := Value.type "tuple", data := Data.seq #[Value.ref 88, Value.ref 90] }) ::
  (nat_lit 92, { cls := Value.type "tuple", data := Data.seq #[] }) ::
  (nat_lit 93, { cls := Value.type "tuple", data := Data.seq #[] }) ::
  (nat_lit 94, { cls := Value.type "tuple", data := Data.seq #[Value.ref 92, Value.ref 93] }) ::
  (nat_lit 95, { cls := Value.type "tuple", data := Data.seq #[] }) ::
  (nat_lit 96, { cls := Value.type "tuple", data := Data.seq #[] }) ::
  (nat_lit 97, { cls := Value.type "tuple", data := Data.seq #[Value.ref 95, Value.ref 96] }) ::
  (nat_lit 98, { cls := Value.type "tuple", data := Data.seq #[Value.ref 19, Value.ref 24, Value.ref 29, Value.ref 34, Value.ref 39, Value.ref 42, Value.ref 48, Value.ref 52, Value.ref 56, Value.ref 60, Value.ref 63, Value.ref 68, Value.ref 72, Value.ref 76, Value.ref 81, Value.ref 86, Value.ref 91, Value.ref 94, Value.ref 97] }) ::
  (nat_lit 106, { cls := Value.type "tuple", data := Data.seq #[] }) ::
  (nat_lit 108, { cls := Value.type "tuple", data := Data.seq #[Value.str (Str.ofString "self") 271, Value.str (Str.ofString "place") 272, Value.str (Str.ofString "numbers") 273, Value.str (Str.ofString "rows") 274, Value.str (Str.ofString "end") 275] }) ::
  (nat_lit 109, { cls := Value.type "tuple", data := Data.seq #[] }) ::
  (nat_lit 111, { cls := Value.type "code", data := Data.fields #[Value.str (Str.ofString "__init__") 268, Value.str (Str.ofString "Call.__init__") 269, Value.str (Str.ofString "/claim/cut.py") 270, Value.int 5 0, Value.int 5 0, Value.int 0 0, Value.int 0 0, Value.int 3 0, Value.ref 106, Value.bool true, Value.int 181 0, Value.ref 107, Value.none, Value.ref 108, Value.ref 109, Value.ref 110, Value.int 276 0, Value.int 5 0, Value.str (Str.ofString "/claim/cut.py") 277] }) ::
  (nat_lit 112, { cls := Value.type "function", data := Data.func { name := Str.ofString "__init__", qualname := Str.ofString "Call.__init__", params := defArgs s_init_Call, body := FuncBody.stmts (defBody s_init_Call), scope := defScope s_init_Call, globals := 3, closure := [], defaults := Value.none, kwdefaults := Value.none, pyModule := Value.str (Str.ofString "keptseats.forms") 187, code := Value.ref 111 } }) ::
  (nat_lit 113, { cls := Value.type "tuple", data := Data.seq #[Value.str (Str.ofString "end") 279, Value.str (Str.ofString "numbers") 280, Value.str (Str.ofString "place") 281, Value.str (Str.ofString "rows") 282] }) ::
  (nat_lit 114, { cls := Value.type "dict", data := Data.dict #[{ hash := PyData.keyHash P (Str.ofString "__module__"), key := Value.str (Str.ofString "__module__") 263, val := Value.str (Str.ofString "keptseats.forms") 187 }, { hash := PyData.keyHash P (Str.ofString "__firstlineno__"), key := Value.str (Str.ofString "__firstlineno__") 267, val := Value.int 3 266 }, { hash := PyData.keyHash P (Str.ofString "__init__"), key := Value.str (Str.ofString "__init__") 278, val := Value.ref 112 }, { hash := PyData.keyHash P (Str.ofString "__static_attributes__"), key := Value.str (Str.ofString "__static_attributes__") 283, val := Value.ref 113 }, { hash := PyData.keyHash P (Str.ofString "__dict__"), key := Value.str (Str.ofString "__dict__") 285, val := Value.ref 116 }, { hash := PyData.keyHash P (Str.ofString "__weakref__"), key := Value.str (Str.ofString "__weakref__") 287, val := Value.ref 117 }, { hash := PyData.keyHash P (Str.ofString "__doc__"), key := Value.str (Str.ofString "__doc__") 288, val := Value.none }] 4 }) ::
  (nat_lit 115, { cls := Value.type "type", data := Data.cls { name := Str.ofString "Call", bases := [Value.type "object"], mro := [Value.ref 115, Value.type "object"], ns := 114, qualname := Str.ofString "Call" }, slots := #[none, none, some (Value.str (Str.ofString "Call") 256), some (Value.str (Str.ofString "Call") 264), some (Value.builtin "object.__new__"), some (Value.bool true)] }) ::
  (nat_lit 116, { cls := Value.type "getset_descriptor", data := Data.fields #[Value.str (Str.ofString "__dict__") 284, Value.ref 115, Value.builtin "function.__dict__", Value.builtin "function.__dict__#set"] }) ::
  (nat_lit 117, { cls := Value.type "getset_descriptor", data := Data.fields #[Value.str (Str.ofString "__weakref__") 286, Value.ref 115, Value.builtin "ExceptionGroup.__weakref__", Value.none] }) ::
  (nat_lit 120, { cls := Value.type "tuple", data := Data.seq #[] }) ::
  (nat_lit 122, { cls := Value.type "tuple", data := Data.seq #[Value.str (Str.ofString "calls") 294, Value.str (Str.ofString "start") 295, Value.str (Str.ofString "place") 296, Value.str (Str.ofString "form") 297, Value.str (Str.ofString "end") 298, Value.str (Str.ofString "numbers") 299, Value.str (Str.ofString "rows") 300, Value.str (Str.ofString "first") 301] }) ::
  (nat_lit 123, { cls := Value.type "tuple", data := Data.seq #[] }) ::
  (nat_lit 125, { cls := Value.type "code", data := Data.fields #[Value.str (Str.ofString "read_call") 291, Value.str (Str.ofString "read_call") 292, Value.str (Str.ofString "/claim/cut.py") 293, Value.int 10 0, Value.int 2 0, Value.int 0 0, Value.int 0 0, Value.int 3 0, Value.ref 120, Value.bool true, Value.int 181 0, Value.ref 121, Value.none, Value.ref 122, Value.ref 123, Value.ref 124, Value.int 302 0, Value.int 10 0, Value.str (Str.ofString "/claim/cut.py") 303] }) ::
  (nat_lit 126, { cls := Value.type "function", data := Data.func { name := Str.ofString "read_call", qualname := Str.ofString "read_call", params := defArgs s_read_call, body := FuncBody.stmts (defBody s_read_call), scope := defScope s_read_call, globals := 3, closure := [], defaults := Value.none, kwdefaults := Value.none, pyModule := Value.str (Str.ofString "keptseats.forms") 187, code := Value.ref 125 } }) ::
  (nat_lit 127, { cls := Value.type "tuple", data := Data.seq #[] }) ::
  (nat_lit 130, { cls := Value.type "code", data := Data.fields #[Value.str (Str.ofString "in_ranges") 305, Value.str (Str.ofString "in_ranges") 306, Value.str (Str.ofString "/claim/cut.py") 307, Value.int 21 0, Value.int 1 0, Value.int 0 0, Value.int 0 0, Value.int 3 0, Value.ref 127, Value.bool true, Value.int 181 0, Value.ref 128, Value.none, Value.none, Value.none, Value.ref 129, Value.int 308 0, Value.int 21 0, Value.str (Str.ofString "/claim/cut.py") 309] }) ::
  (nat_lit 131, { cls := Value.type "function", data := Data.func { name := Str.ofString "in_ranges", qualname := Str.ofString "in_ranges", params := defArgs s_in_ranges, body := FuncBody.stmts (defBody s_in_ranges), scope := defScope s_in_ranges, globals := 3, closure := [], defaults := Value.none, kwdefaults := Value.none, pyModule := Value.str (Str.ofString "keptseats.forms") 187, code := Value.ref 130 } }) ::
  (nat_lit 139, { cls := Value.type "tuple", data := Data.seq #[] }) ::
  (nat_lit 141, { cls := Value.type "tuple", data := Data.seq #[Value.str (Str.ofString "self") 328, Value.str (Str.ofString "above") 329, Value.str (Str.ofString "below") 330] }) ::
  (nat_lit 142, { cls := Value.type "tuple", data := Data.seq #[] }) ::
  (nat_lit 144, { cls := Value.type "code", data := Data.fields #[Value.str (Str.ofString "__init__") 325, Value.str (Str.ofString "Worth.__init__") 326, Value.str (Str.ofString "/claim/cut.py") 327, Value.int 35 0, Value.int 3 0, Value.int 0 0, Value.int 0 0, Value.int 3 0, Value.ref 139, Value.bool true, Value.int 181 0, Value.ref 140, Value.none, Value.ref 141, Value.ref 142, Value.ref 143, Value.int 331 0, Value.int 35 0, Value.str (Str.ofString "/claim/cut.py") 332] }) ::
  (nat_lit 145, { cls := Value.type "function", data := Data.func { name := Str.ofString "__init__", qualname := Str.ofString "Worth.__init__", params := defArgs s_init_Worth, body := FuncBody.stmts (defBody s_init_Worth), scope := defScope s_init_Worth, globals := 3, closure := [], defaults := Value.none, kwdefaults := Value.none, pyModule := Value.str (Str.ofString "keptseats.worth") 311, code := Value.ref 144 } }) ::
  (nat_lit 146, { cls := Value.type "tuple", data := Data.seq #[Value.str (Str.ofString "above") 334, Value.str (Str.ofString "below") 335] }) ::
  (nat_lit 147, { cls := Value.type "dict", data := Data.dict #[{ hash := PyData.keyHash P (Str.ofString "__module__"), key := Value.str (Str.ofString "__module__") 320, val := Value.str (Str.ofString "keptseats.worth") 311 }, { hash := PyData.keyHash P (Str.ofString "__firstlineno__"), key := Value.str (Str.ofString "__firstlineno__") 324, val := Value.int 33 323 }, { hash := PyData.keyHash P (Str.ofString "__init__"), key := Value.str (Str.ofString "__init__") 333, val := Value.ref 145 }, { hash := PyData.keyHash P (Str.ofString "__static_attributes__"), key := Value.str (Str.ofString "__static_attributes__") 336, val := Value.ref 146 }, { hash := PyData.keyHash P (Str.ofString "__dict__"), key := Value.str (Str.ofString "__dict__") 338, val := Value.ref 149 }, { hash := PyData.keyHash P (Str.ofString "__weakref__"), key := Value.str (Str.ofString "__weakref__") 340, val := Value.ref 150 }, { hash := PyData.keyHash P (Str.ofString "__doc__"), key := Value.str (Str.ofString "__doc__") 341, val := Value.none }] 4 }) ::
  (nat_lit 148, { cls := Value.type "type", data := Data.cls { name := Str.ofString "Worth", bases := [Value.type "object"], mro := [Value.ref 148, Value.type "object"], ns := 147, qualname := Str.ofString "Worth" }, slots := #[none, none, some (Value.str (Str.ofString "Worth") 313), some (Value.str (Str.ofString "Worth") 321), some (Value.builtin "object.__new__"), some (Value.bool true)] }) ::
  (nat_lit 149, { cls := Value.type "getset_descriptor", data := Data.fields #[Value.str (Str.ofString "__dict__") 337, Value.ref 148, Value.builtin "function.__dict__", Value.builtin "function.__dict__#set"] }) ::
  (nat_lit 150, { cls := Value.type "getset_descriptor", data := Data.fields #[Value.str (Str.ofString "__weakref__") 339, Value.ref 148, Value.builtin "ExceptionGroup.__weakref__", Value.none] }) ::
  (nat_lit 153, { cls := Value.type "tuple", data := Data.seq #[] }) ::
  (nat_lit 155, { cls := Value.type "tuple", data := Data.seq #[Value.str (Str.ofString "seats") 347] }) ::
  (nat_lit 156, { cls := Value.type "tuple", data := Data.seq #[] }) ::
  (nat_lit 158, { cls := Value.type "code", data := Data.fields #[Value.str (Str.ofString "no_worth") 344, Value.str (Str.ofString "no_worth") 345, Value.str (Str.ofString "/claim/cut.py") 346, Value.int 38 0, Value.int 1 0, Value.int 0 0, Value.int 0 0, Value.int 3 0, Value.ref 153, Value.bool true, Value.int 181 0, Value.ref 154, Value.none, Value.ref 155, Value.ref 156, Value.ref 157, Value.int 348 0, Value.int 38 0, Value.str (Str.ofString "/claim/cut.py") 349] }) ::
  (nat_lit 159, { cls := Value.type "function", data := Data.func { name := Str.ofString "no_worth", qualname := Str.ofString "no_worth", params := defArgs s_no_worth, body := FuncBody.stmts (defBody s_no_worth), scope := defScope s_no_worth, globals := 3, closure := [], defaults := Value.none, kwdefaults := Value.none, pyModule := Value.str (Str.ofString "keptseats.worth") 311, code := Value.ref 158 } }) ::
  (nat_lit 160, { cls := Value.type "tuple", data := Data.seq #[] }) ::
  (nat_lit 162, { cls := Value.type "tuple", data := Data.seq #[Value.str (Str.ofString "a") 354, Value.str (Str.ofString "b") 355, Value.str (Str.ofString "rest") 356] }) ::
  (nat_lit 163, { cls := Value.type "tuple", data := Data.seq #[] }) ::
  (nat_lit 165, { cls := Value.type "code", data := Data.fields #[Value.str (Str.ofString "common_divisor") 351, Value.str (Str.ofString "common_divisor") 352, Value.str (Str.ofString "/claim/cut.py") 353, Value.int 40 0, Value.int 2 0, Value.int 0 0, Value.int 0 0, Value.int 3 0, Value.ref 160, Value.bool true, Value.int 181 0, Value.ref 161, Value.none, Value.ref 162, Value.ref 163, Value.ref 164, Value.int 357 0, Value.int 40 0, Value.str (Str.ofString "/claim/cut.py") 358] }) ::
  (nat_lit 166, { cls := Value.type "function", data := Data.func { name := Str.ofString "common_divisor", qualname := Str.ofString "common_divisor", params := defArgs s_common_divisor, body := FuncBody.stmts (defBody s_common_divisor), scope := defScope s_common_divisor, globals := 3, closure := [], defaults := Value.none, kwdefaults := Value.none, pyModule := Value.str (Str.ofString "keptseats.worth") 311, code := Value.ref 165 } }) ::
  (nat_lit 167, { cls := Value.type "tuple", data := Data.seq #[] }) ::
  (nat_lit 169, { cls := Value.type "tuple", data := Data.seq #[Value.str (Str.ofString "above") 363, Value.str (Str.ofString "below") 364, Value.str (Str.ofString "shared") 365] }) ::
  (nat_lit 170, { cls := Value.type "tuple", data := Data.seq #[] }) ::
  (nat_lit 172, { cls := Value.type "code", data := Data.fields #[Value.str (Str.ofString "lowest_terms") 360, Value.str (Str.ofString "lowest_terms") 361, Value.str (Str.ofString "/claim/cut.py") 362, Value.int 46 0, Value.int 2 0, Value.int 0 0, Value.int 0 0, Value.int 3 0, Value.ref 167, Value.bool true, Value.int 181 0, Value.ref 168, Value.none, Value.ref 169, Value.ref 170, Value.ref 171, Value.int 366 0, Value.int 46 0, Value.str (Str.ofString "/claim/cut.py") 367] }) ::
  (nat_lit 173, { cls := Value.type "function", data := Data.func { name := Str.ofString "lowest_terms", qualname := Str.ofString "lowest_terms", params := defArgs s_lowest_terms, body := FuncBody.stmts (defBody s_lowest_terms), scope := defScope s_lowest_terms, globals := 3, closure := [], defaults := Value.none, kwdefaults := Value.none, pyModule := Value.str (Str.ofString "keptseats.worth") 311, code := Value.ref 172 } }) ::
  (nat_lit 174, { cls := Value.type "tuple", data := Data.seq #[] }) ::
  (nat_lit 176, { cls := Value.type "tuple", data := Data.seq #[Value.str (Str.ofString "asked") 372, Value.str (Str.ofString "left") 373, Value.str (Str.ofString "kept") 374] }) ::
  (nat_lit 177, { cls := Value.type "tuple", data := Data.seq #[] }) ::
  (nat_lit 179, { cls := Value.type "code", data := Data.fields #[Value.str (Str.ofString "sold_of") 369, Value.str (Str.ofString "sold_of") 370, Value.str (Str.ofString "/claim/cut.py") 371, Value.int 49 0, Value.int 3 0, Value.int 0 0, Value.int 0 0, Value.int 3 0, Value.ref 174, Value.bool true, Value.int 181 0, Value.ref 175, Value.none, Value.ref 176, Value.ref 177, Value.ref 178, Value.int 375 0, Value.int 49 0, Value.str (Str.ofString "/claim/cut.py") 376] }) ::
  (nat_lit 180, { cls := Value.type "function", data := Data.func { name := Str.ofString "sold_of", qualname := Str.ofString "sold_of", params := defArgs s_sold_of, body := FuncBody.stmts (defBody s_sold_of), scope := defScope s_sold_of, globals := 3, closure := [], defaults := Value.none, kwdefaults := Value.none, pyModule := Value.str (Str.ofString "keptseats.worth") 311, code := Value.ref 179 } }) ::
  (nat_lit 181, { cls := Value.type "tuple", data := Data.seq #[] }) ::
  (nat_lit 183, { cls := Value.type "tuple", data := Data.seq #[Value.str (Str.ofString "gain") 381, Value.str (Str.ofString "weights") 382, Value.str (Str.ofString "later") 383, Value.str (Str.ofString "x") 384, Value.str (Str.ofString "best") 385, Value.str (Str.ofString "total") 386, Value.str (Str.ofString "d") 387, Value.str (Str.ofString "weight") 388] }) ::
  (nat_lit 184, { cls := Value.type "tuple", data := Data.seq #[] }) ::
  (nat_lit 186, { cls := Value.type "code", data := Data.fields #[Value.str (Str.ofString "best_sum") 378, Value.str (Str.ofString "best_sum") 379, Value.str (Str.ofString "/claim/cut.py") 380, Value.int 51 0, Value.int 4 0, Value.int 0 0, Value.int 0 0, Value.int 3 0, Value.ref 181, Value.bool true, Value.int 181 0, Value.ref 182, Value.none, Value.ref 183, Value.ref 184, Value.ref 185, Value.int 389 0, Value.int 51 0, Value.str (Str.ofString "/claim/cut.py") 390] }) ::
  (nat_lit 187, { cls := Value.type "function", data := Data.func { name := Str.ofString "best_sum", qualname := Str.ofString "best_sum", params := defArgs s_best_sum, body := FuncBody.stmts (defBody s_best_sum), scope := defScope s_best_sum, globals := 3, closure := [], defaults := Value.none, kwdefaults := Value.none, pyModule := Value.str (Str.ofString "keptseats.worth") 311, code := Value.ref 186 } }) ::
  (nat_lit 188, { cls := Value.type "tuple", data := Data.seq #[] }) ::
  (nat_lit 190, { cls := Value.type "tuple", data := Data.seq #[Value.str (Str.ofString "gain") 395, Value.str (Str.ofString "weights") 396, Value.str (Str.ofString "later") 397, Value.str (Str.ofString "x") 398, Value.str (Str.ofString "kept") 399, Value.str (Str.ofString "total") 400, Value.str (Str.ofString "d") 401, Value.str (Str.ofString "weight") 402, Value.str (Str.ofString "sold") 403] }) ::
  (nat_lit 191, { cls := Value.type "tuple", data := Data.seq #[] }) ::
  (nat_lit 193, { cls := Value.type "code", data := Data.fields #[Value.str (Str.ofString "kept_sum") 392, Value.str (Str.ofString "kept_sum") 393, Value.str (Str.ofString "/claim/cut.py") 394, Value.int 59 0, Value.int 5 0, Value.int 0 0, Value.int 0 0, Value.int 3 0, Value.ref 188, Value.bool true, Value.int 181 0, Value.ref 189, Value.none, Value.ref 190, Value.ref 191, Value.ref 192, Value.int 404 0, Value.int 59 0, Value.str (Str.ofString "/claim/cut.py") 405] }) ::
  (nat_lit 194, { cls := Value.type "function", data := Data.func { name := Str.ofString "kept_sum", qualname := Str.ofString "kept_sum", params := defArgs s_kept_sum, body := FuncBody.stmts (defBody s_kept_sum), scope := defScope s_kept_sum, globals := 3, closure := [], defaults := Value.none, kwdefaults := Value.none, pyModule := Value.str (Str.ofString "keptseats.worth") 311, code := Value.ref 193 } }) ::
  (nat_lit 195, { cls := Value.type "tuple", data := Data.seq #[] }) ::
  (nat_lit 198, { cls := Value.type "code", data := Data.fields #[Value.str (Str.ofString "best_worths") 407, Value.str (Str.ofString "best_worths") 408, Value.str (Str.ofString "/claim/cut.py") 409, Value.int 65 0, Value.int 3 0, Value.int 0 0, Value.int 0 0, Value.int 3 0, Value.ref 195, Value.bool true, Value.int 181 0, Value.ref 196, Value.none, Value.none, Value.none, Value.ref 197, Value.int 410 0, Value.int 65 0, Value.str (Str.ofString "/claim/cut.py") 411] }) ::
  (nat_lit 199, { cls := Value.type "function", data := Data.func { name := Str.ofString "best_worths", qualname := Str.ofString "best_worths", params := defArgs s_best_worths, body := FuncBody.stmts (defBody s_best_worths), scope := defScope s_best_worths, globals := 3, closure := [], defaults := Value.none, kwdefaults := Value.none, pyModule := Value.str (Str.ofString "keptseats.worth") 311, code := Value.ref 198 } }) ::
  (nat_lit 200, { cls := Value.type "tuple", data := Data.seq #[] }) ::
  (nat_lit 203, { cls := Value.type "code", data := Data.fields #[Value.str (Str.ofString "kept_worth") 413, Value.str (Str.ofString "kept_worth") 414, Value.str (Str.ofString "/claim/cut.py") 415, Value.int 74 0, Value.int 4 0, Value.int 0 0, Value.int 0 0, Value.int 3 0, Value.ref 200, Value.bool true, Value.int 181 0, Value.ref 201, Value.none, Value.none, Value.none, Value.ref 202, Value.int 416 0, Value.int 74 0, Value.str (Str.ofString "/claim/cut.py") 417] }) ::
  (nat_lit 204, { cls := Value.type "function", data := Data.func { name := Str.ofString "kept_worth", qualname := Str.ofString "kept_worth", params := defArgs s_kept_worth, body := FuncBody.stmts (defBody s_kept_worth), scope := defScope s_kept_worth, globals := 3, closure := [], defaults := Value.none, kwdefaults := Value.none, pyModule := Value.str (Str.ofString "keptseats.worth") 311, code := Value.ref 203 } }) ::
  (nat_lit 205, { cls := Value.type "tuple", data := Data.seq #[] }) ::
  (nat_lit 207, { cls := Value.type "tuple", data := Data.seq #[Value.str (Str.ofString "worth") 422, Value.str (Str.ofString "fare") 423, Value.str (Str.ofString "kept") 424, Value.str (Str.ofString "y") 425] }) ::
  (nat_lit 208, { cls := Value.type "tuple", data := Data.seq #[] }) ::
  (nat_lit 210, { cls := Value.type "code", data := Data.fields #[Value.str (Str.ofString "protection") 419, Value.str (Str.ofString "protection") 420, Value.str (Str.ofString "/claim/cut.py") 421, Value.int 81 0, Value.int 2 0, Value.int 0 0, Value.int 0 0, Value.int 3 0, Value.ref 205, Value.bool true, Value.int 181 0, Value.ref 206, Value.none, Value.ref 207, Value.ref 208, Value.ref 209, Value.int 426 0, Value.int 81 0, Value.str (Str.ofString "/claim/cut.py") 427] }) ::
  (nat_lit 211, { cls := Value.type "function", data := Data.func { name := Str.ofString "protection", qualname := Str.ofString "protection", params := defArgs s_protection, body := FuncBody.stmts (defBody s_protection), scope := defScope s_protection, globals := 3, closure := [], defaults := Value.none, kwdefaults := Value.none, pyModule := Value.str (Str.ofString "keptseats.worth") 311, code := Value.ref 210 } }) ::
  (nat_lit 212, { cls := Value.type "tuple", data := Data.seq #[] }) ::
  (nat_lit 215, { cls := Value.type "code", data := Data.fields #[Value.str (Str.ofString "best_kept") 429, Value.str (Str.ofString "best_kept") 430, Value.str (Str.ofString "/claim/cut.py") 431, Value.int 87 0, Value.int 3 0, Value.int 0 0, Value.int 0 0, Value.int 3 0, Value.ref 212, Value.bool true, Value.int 181 0, Value.ref 213, Value.none, Value.none, Value.none, Value.ref 214, Value.int 432 0, Value.int 87 0, Value.str (Str.ofString "/claim/cut.py") 433] }) ::
  (nat_lit 216, { cls := Value.type "function", data := Data.func { name := Str.ofString "best_kept", qualname := Str.ofString "best_kept", params := defArgs s_best_kept, body := FuncBody.stmts (defBody s_best_kept), scope := defScope s_best_kept, globals := 3, closure := [], defaults := Value.none, kwdefaults := Value.none, pyModule := Value.str (Str.ofString "keptseats.worth") 311, code := Value.ref 215 } }) ::
  (nat_lit 217, { cls := Value.type "tuple", data := Data.seq #[] }) ::
  (nat_lit 219, { cls := Value.type "tuple", data := Data.seq #[Value.str (Str.ofString "gains") 440, Value.str (Str.ofString "weights") 441, Value.str (Str.ofString "later") 442, Value.str (Str.ofString "x") 443, Value.str (Str.ofString "total") 444, Value.str (Str.ofString "gain") 445, Value.str (Str.ofString "weight") 446] }) ::
  (nat_lit 220, { cls := Value.type "tuple", data := Data.seq #[] }) ::
  (nat_lit 222, { cls := Value.type "code", data := Data.fields #[Value.str (Str.ofString "period_sum") 437, Value.str (Str.ofString "period_sum") 438, Value.str (Str.ofString "/claim/cut.py") 439, Value.int 91 0, Value.int 4 0, Value.int 0 0, Value.int 0 0, Value.int 3 0, Value.ref 217, Value.bool true, Value.int 181 0, Value.ref 218, Value.none, Value.ref 219, Value.ref 220, Value.ref 221, Value.int 447 0, Value.int 91 0, Value.str (Str.ofString "/claim/cut.py") 448] }) ::
  (nat_lit 223, { cls := Value.type "function", data := Data.func { name := Str.ofString "period_sum", qualname := Str.ofString "period_sum", params := defArgs s_period_sum, body := FuncBody.stmts (defBody s_period_sum), scope := defScope s_period_sum, globals := 3, closure := [], defaults := Value.none, kwdefaults := Value.none, pyModule := Value.str (Str.ofString "keptseats.span") 435, code := Value.ref 222 } }) ::
  (nat_lit 224, { cls := Value.type "tuple", data := Data.seq #[] }) ::
  (nat_lit 227, { cls := Value.type "code", data := Data.fields #[Value.str (Str.ofString "period_worth") 450, Value.str (Str.ofString "period_worth") 451, Value.str (Str.ofString "/claim/cut.py") 452, Value.int 96 0, Value.int 3 0, Value.int 0 0, Value.int 0 0, Value.int 3 0, Value.ref 224, Value.bool true, Value.int 181 0, Value.ref 225, Value.none, Value.none, Value.none, Value.ref 226, Value.int 453 0, Value.int 96 0, Value.str (Str.ofString "/claim/cut.py") 454] }) ::
  (nat_lit 228, { cls := Value.type "function", data := Data.func { name := Str.ofString "period_worth", qualname := Str.ofString "period_worth", params := defArgs s_period_worth, body := FuncBody.stmts (defBody s_period_worth), scope := defScope s_period_worth, globals := 3, closure := [], defaults := Value.none, kwdefaults := Value.none, pyModule := Value.str (Str.ofString "keptseats.span") 435, code := Value.ref 227 } }) ::
  (nat_lit 229, { cls := Value.type "tuple", data := Data.seq #[] }) ::
  (nat_lit 231, { cls := Value.type "tuple", data := Data.seq #[Value.str (Str.ofString "fares") 459, Value.str (Str.ofString "periods") 460, Value.str (Str.ofString "seats") 461, Value.str (Str.ofString "worths") 462, Value.str (Str.ofString "weights") 463] }) ::
  (nat_lit 232, { cls := Value.type "tuple", data := Data.seq #[] }) ::
  (nat_lit 234, { cls := Value.type "code", data := Data.fields #[Value.str (Str.ofString "span_worths") 456, Value.str (Str.ofString "span_worths") 457, Value.str (Str.ofString "/claim/cut.py") 458, Value.int 100 0, Value.int 3 0, Value.int 0 0, Value.int 0 0, Value.int 3 0, Value.ref 229, Value.bool true, Value.int 181 0, Value.ref 230, Value.none, Value.ref 231, Value.ref 232, Value.ref 233, Value.int 464 0, Value.int 100 0, Value.str (Str.ofString "/claim/cut.py") 465] }) ::
  (nat_lit 235, { cls := Value.type "function", data := Data.func { name := Str.ofString "span_worths", qualname := Str.ofString "span_worths", params := defArgs s_span_worths, body := FuncBody.stmts (defBody s_span_worths), scope := defScope s_span_worths, globals := 3, closure := [], defaults := Value.none, kwdefaults := Value.none, pyModule := Value.str (Str.ofString "keptseats.span") 435, code := Value.ref 234 } }) ::
  (nat_lit 236, { cls := Value.type "tuple", data := Data.seq #[] }) ::
  (nat_lit 238, { cls := Value.type "tuple", data := Data.seq #[Value.str (Str.ofString "fare") 470, Value.str (Str.ofString "later") 471, Value.str (Str.ofString "x") 472] }) ::
  (nat_lit 239, { cls := Value.type "tuple", data := Data.seq #[] }) ::
  (nat_lit 241, { cls := Value.type "code", data := Data.fields #[Value.str (Str.ofString "is_taken") 467, Value.str (Str.ofString "is_taken") 468, Value.str (Str.ofString "/claim/cut.py") 469, Value.int 105 0, Value.int 3 0, Value.int 0 0, Value.int 0 0, Value.int 3 0, Value.ref 236, Value.bool true, Value.int 181 0, Value.ref 237, Value.none, Value.ref 238, Value.ref 239, Value.ref 240, Value.int 473 0, Value.int 105 0, Value.str (Str.ofString "/claim/cut.py") 474] }) ::
  (nat_lit 242, { cls := Value.type "function", data := Data.func { name := Str.ofString "is_taken", qualname := Str.ofString "is_taken", params := defArgs s_is_taken, body := FuncBody.stmts (defBody s_is_taken), scope := defScope s_is_taken, globals := 3, closure := [], defaults := Value.none, kwdefaults := Value.none, pyModule := Value.str (Str.ofString "keptseats.span") 435, code := Value.ref 241 } }) ::
  (nat_lit 243, { cls := Value.type "tuple", data := Data.seq #[Value.int 1 480, Value.int 2 481, Value.int 3 482, Value.int 4 483, Value.int 6 484, Value.int 11 485, Value.int 12 486] }) ::
  (nat_lit 251, { cls := Value.type "tuple", data := Data.seq #[] }) ::
  (nat_lit 253, { cls := Value.type "tuple", data := Data.seq #[Value.str (Str.ofString "self") 505] }) ::
  (nat_lit 254, { cls := Value.type "tuple", data := Data.seq #[] }) ::
  (nat_lit 256, { cls := Value.type "code", data := Data.fields #[Value.str (Str.ofString "__init__") 502, Value.str (Str.ofString "Plan.__init__") 503, Value.str (Str.ofString "/claim/cut.py") 504, Value.int 115 0, Value.int 1 0, Value.int 0 0, Value.int 0 0, Value.int 3 0, Value.ref 251, Value.bool true, Value.int 181 0, Value.ref 252, Value.none, Value.ref 253, Value.ref 254, Value.ref 255, Value.int 506 0, Value.int 115 0, Value.str (Str.ofString "/claim/cut.py") 507] }) ::
  (nat_lit 257, { cls := Value.type "function", data := Data.func { name := Str.ofString "__init__", qualname := Str.ofString "Plan.__init__", params := defArgs s_init_Plan, body := FuncBody.stmts (defBody s_init_Plan), scope := defScope s_init_Plan, globals := 3, closure := [], defaults := Value.none, kwdefaults := Value.none, pyModule := Value.str (Str.ofString "keptseats.plan") 476, code := Value.ref 256 } }) ::
  (nat_lit 258, { cls := Value.type "tuple", data := Data.seq #[Value.str (Str.ofString "fares") 509, Value.str (Str.ofString "periods") 510, Value.str (Str.ofString "seats") 511, Value.str (Str.ofString "weights") 512] }) ::
  (nat_lit 259, { cls := Value.type "dict", data := Data.dict #[{ hash := PyData.keyHash P (Str.ofString "__module__"), key := Value.str (Str.ofString "__module__") 497, val := Value.str (Str.ofString "keptseats.plan") 476 }, { hash := PyData.keyHash P (Str.ofString "__firstlineno__"), key := Value.str (Str.ofString "__firstlineno__") 501, val := Value.int 113 500 }, { hash := PyData.keyHash P (Str.ofString "__init__"), key := Value.str (Str.ofString "__init__") 508, val := Value.ref 257 }, { hash := PyData.keyHash P (Str.ofString "__static_attributes__"), key := Value.str (Str.ofString "__static_attributes__") 513, val := Value.ref 258 }, { hash := PyData.keyHash P (Str.ofString "__dict__"), key := Value.str (Str.ofString "__dict__") 515, val := Value.ref 261 }, { hash := PyData.keyHash P (Str.ofString "__weakref__"), key := Value.str (Str.ofString "__weakref__") 517, val := Value.ref 262 }, { hash := PyData.keyHash P (Str.ofString "__doc__"), key := Value.str (Str.ofString "__doc__") 518, val := Value.none }] 4 }) ::
  (nat_lit 260, { cls := Value.type "type", data := Data.cls { name := Str.ofString "Plan", bases := [Value.type "object"], mro := [Value.ref 260, Value.type "object"], ns := 259, qualname := Str.ofString "Plan" }, slots := #[none, none, some (Value.str (Str.ofString "Plan") 490), some (Value.str (Str.ofString "Plan") 498), some (Value.builtin "object.__new__"), some (Value.bool true)] }) ::
  (nat_lit 261, { cls := Value.type "getset_descriptor", data := Data.fields #[Value.str (Str.ofString "__dict__") 514, Value.ref 260, Value.builtin "function.__dict__", Value.builtin "function.__dict__#set"] }) ::
  (nat_lit 262, { cls := Value.type "getset_descriptor", data := Data.fields #[Value.str (Str.ofString "__weakref__") 516, Value.ref 260, Value.builtin "ExceptionGroup.__weakref__", Value.none] }) ::
  (nat_lit 265, { cls := Value.type "tuple", data := Data.seq #[] }) ::
  (nat_lit 268, { cls := Value.type "code", data := Data.fields #[Value.str (Str.ofString "new") 521, Value.str (Str.ofString "new") 522, Value.str (Str.ofString "/claim/cut.py") 523, Value.int 120 0, Value.int 3 0, Value.int 0 0, Value.int 0 0, Value.int 3 0, Value.ref 265, Value.bool true, Value.int 181 0, Value.ref 266, Value.none, Value.none, Value.none, Value.ref 267, Value.int 524 0, Value.int 120 0, Value.str (Str.ofString "/claim/cut.py") 525] }) ::
  (nat_lit 269, { cls := Value.type "function", data := Data.func { name := Str.ofString "new", qualname := Str.ofString "new", params := defArgs s_new, body := FuncBody.stmts (defBody s_new), scope := defScope s_new, globals := 3, closure := [], defaults := Value.none, kwdefaults := Value.none, pyModule := Value.str (Str.ofString "keptseats.plan") 476, code := Value.ref 268 } }) ::
  (nat_lit 270, { cls := Value.type "tuple", data := Data.seq #[] }) ::
  (nat_lit 272, { cls := Value.type "tuple", data := Data.seq #[Value.str (Str.ofString "plan") 530, Value.str (Str.ofString "numbers") 531, Value.str (Str.ofString "rows") 532] }) ::
  (nat_lit 273, { cls := Value.type "tuple", data := Data.seq #[] }) ::
  (nat_lit 275, { cls := Value.type "code", data := Data.fields #[Value.str (Str.ofString "demand") 527, Value.str (Str.ofString "demand") 528, Value.str (Str.ofString "/claim/cut.py") 529, Value.int 130 0, Value.int 3 0, Value.int 0 0, Value.int 0 0, Value.int 3 0, Value.ref 270, Value.bool true, Value.int 181 0, Value.ref 271, Value.none, Value.ref 272, Value.ref 273, Value.ref 274, Value.int 533 0, Value.int 130 0, Value.str (Str.ofString "/claim/cut.py") 534] }) ::
  (nat_lit 276, { cls := Value.type "function", data := Data.func { name := Str.ofString "demand", qualname := Str.ofString "demand", params := defArgs s_demand, body := FuncBody.stmts (defBody s_demand), scope := defScope s_demand, globals := 3, closure := [], defaults := Value.none, kwdefaults := Value.none, pyModule := Value.str (Str.ofString "keptseats.plan") 476, code := Value.ref 275 } }) ::
  (nat_lit 277, { cls := Value.type "tuple", data := Data.seq #[] }) ::
  (nat_lit 279, { cls := Value.type "tuple", data := Data.seq #[Value.str (Str.ofString "plan") 539, Value.str (Str.ofString "numbers") 540, Value.str (Str.ofString "rows") 541, Value.str (Str.ofString "weights") 542, Value.str (Str.ofString "d") 543] }) ::
  (nat_lit 280, { cls := Value.type "tuple", data := Data.seq #[] }) ::
  (nat_lit 282, { cls := Value.type "code", data := Data.fields #[Value.str (Str.ofString "observe") 536, Value.str (Str.ofString "observe") 537, Value.str (Str.ofString "/claim/cut.py") 538, Value.int 135 0, Value.int 3 0, Value.int 0 0, Value.int 0 0, Value.int 3 0, Value.ref 277, Value.bool true, Value.int 181 0, Value.ref 278, Value.none, Value.ref 279, Value.ref 280, Value.ref 281, Value.int 544 0, Value.int 135 0, Value.str (Str.ofString "/claim/cut.py") 545] }) ::
  (nat_lit 283, { cls := Value.type "function", data := Data.func { name := Str.ofString "observe", qualname := Str.ofString "observe", params := defArgs s_observe, body := FuncBody.stmts (defBody s_observe), scope := defScope s_observe, globals := 3, closure := [], defaults := Value.none, kwdefaults := Value.none, pyModule := Value.str (Str.ofString "keptseats.plan") 476, code := Value.ref 282 } }) ::
  (nat_lit 284, { cls := Value.type "tuple", data := Data.seq #[] }) ::
  (nat_lit 286, { cls := Value.type "tuple", data := Data.seq #[Value.str (Str.ofString "plan") 550, Value.str (Str.ofString "i") 551, Value.str (Str.ofString "x") 552, Value.str (Str.ofString "worths") 553] }) ::
  (nat_lit 287, { cls := Value.type "tuple", data := Data.seq #[] }) ::
  (nat_lit 289, { cls := Value.type "code", data := Data.fields #[Value.str (Str.ofString "worth_to") 547, Value.str (Str.ofString "worth_to") 548, Value.str (Str.ofString "/claim/cut.py") 549, Value.int 144 0, Value.int 3 0, Value.int 0 0, Value.int 0 0, Value.int 3 0, Value.ref 284, Value.bool true, Value.int 181 0, Value.ref 285, Value.none, Value.ref 286, Value.ref 287, Value.ref 288, Value.int 554 0, Value.int 144 0, Value.str (Str.ofString "/claim/cut.py") 555] }) ::
  (nat_lit 290, { cls := Value.type "function", data := Data.func { name := Str.ofString "worth_to", qualname := Str.ofString "worth_to", params := defArgs s_worth_to, body := FuncBody.stmts (defBody s_worth_to), scope := defScope s_worth_to, globals := 3, closure := [], defaults := Value.none, kwdefaults := Value.none, pyModule := Value.str (Str.ofString "keptseats.plan") 476, code := Value.ref 289 } }) ::
  (nat_lit 291, { cls := Value.type "tuple", data := Data.seq #[] }) ::
  (nat_lit 293, { cls := Value.type "tuple", data := Data.seq #[Value.str (Str.ofString "plan") 560, Value.str (Str.ofString "numbers") 561, Value.str (Str.ofString "rows") 562, Value.str (Str.ofString "x") 563, Value.str (Str.ofString "worth") 564] }) ::
  (nat_lit 294, { cls := Value.type "tuple", data := Data.seq #[] }) ::
  (nat_lit 296, { cls := Value.type "code", data := Data.fields #[Value.str (Str.ofString "value") 557, Value.str (Str.ofString "value") 558, Value.str (Str.ofString "/claim/cut.py") 559, Value.int 147 0, Value.int 3 0, Value.int 0 0, Value.int 0 0, Value.int 3 0, Value.ref 291, Value.bool true, Value.int 181 0, Value.ref 292, Value.none, Value.ref 293, Value.ref 294, Value.ref 295, Value.int 565 0, Value.int 147 0, Value.str (Str.ofString "/claim/cut.py") 566] }) ::
  (nat_lit 297, { cls := Value.type "function", data := Data.func { name := Str.ofString "value", qualname := Str.ofString "value", params := defArgs s_value, body := FuncBody.stmts (defBody s_value), scope := defScope s_value, globals := 3, closure := [], defaults := Value.none, kwdefaults := Value.none, pyModule := Value.str (Str.ofString "keptseats.plan") 476, code := Value.ref 296 } }) ::
  (nat_lit 298, { cls := Value.type "tuple", data := Data.seq #[] }) ::
  (nat_lit 300, { cls := Value.type "tuple", data := Data.seq #[Value.str (Str.ofString "plan") 571, Value.str (Str.ofString "numbers") 572, Value.str (Str.ofString "rows") 573, Value.str (Str.ofString "x") 574, Value.str (Str.ofString "worth") 575] }) ::
  (nat_lit 301, { cls := Value.type "tuple", data := Data.seq #[] }) ::
  (nat_lit 303, { cls := Value.type "code", data := Data.fields #[Value.str (Str.ofString "marginal") 568, Value.str (Str.ofString "marginal") 569, Value.str (Str.ofString "/claim/cut.py") 570, Value.int 153 0, Value.int 3 0, Value.int 0 0, Value.int 0 0, Value.int 3 0, Value.ref 298, Value.bool true, Value.int 181 0, Value.ref 299, Value.none, Value.ref 300, Value.ref 301, Value.ref 302, Value.int 576 0, Value.int 153 0, Value.str (Str.ofString "/claim/cut.py") 577] }) ::
  (nat_lit 304, { cls := Value.type "function", data := Data.func { name := Str.ofString "marginal", qualname := Str.ofString "marginal", params := defArgs s_marginal, body := FuncBody.stmts (defBody s_marginal), scope := defScope s_marginal, globals := 3, closure := [], defaults := Value.none, kwdefaults := Value.none, pyModule := Value.str (Str.ofString "keptseats.plan") 476, code := Value.ref 303 } }) ::
  (nat_lit 305, { cls := Value.type "tuple", data := Data.seq #[] }) ::
  (nat_lit 307, { cls := Value.type "tuple", data := Data.seq #[Value.str (Str.ofString "plan") 582, Value.str (Str.ofString "numbers") 583, Value.str (Str.ofString "rows") 584] }) ::
  (nat_lit 308, { cls := Value.type "tuple", data := Data.seq #[] }) ::
  (nat_lit 310, { cls := Value.type "code", data := Data.fields #[Value.str (Str.ofString "protections") 579, Value.str (Str.ofString "protections") 580, Value.str (Str.ofString "/claim/cut.py") 581, Value.int 159 0, Value.int 3 0, Value.int 0 0, Value.int 0 0, Value.int 3 0, Value.ref 305, Value.bool true, Value.int 181 0, Value.ref 306, Value.none, Value.ref 307, Value.ref 308, Value.ref 309, Value.int 585 0, Value.int 159 0, Value.str (Str.ofString "/claim/cut.py") 586] }) ::
  (nat_lit 311, { cls := Value.type "function", data := Data.func { name := Str.ofString "protections", qualname := Str.ofString "protections", params := defArgs s_protections, body := FuncBody.stmts (defBody s_protections), scope := defScope s_protections, globals := 3, closure := [], defaults := Value.none, kwdefaults := Value.none, pyModule := Value.str (Str.ofString "keptseats.plan") 476, code := Value.ref 310 } }) ::
  (nat_lit 312, { cls := Value.type "tuple", data := Data.seq #[] }) ::
  (nat_lit 314, { cls := Value.type "tuple", data := Data.seq #[Value.str (Str.ofString "kept") 591] }) ::
  (nat_lit 315, { cls := Value.type "tuple", data := Data.seq #[] }) ::
  (nat_lit 317, { cls := Value.type "code", data := Data.fields #[Value.str (Str.ofString "kept_from") 588, Value.str (Str.ofString "kept_from") 589, Value.str (Str.ofString "/claim/cut.py") 590, Value.int 161 0, Value.int 1 0, Value.int 0 0, Value.int 0 0, Value.int 3 0, Value.ref 312, Value.bool true, Value.int 181 0, Value.ref 313, Value.none, Value.ref 314, Value.ref 315, Value.ref 316, Value.int 592 0, Value.int 161 0, Value.str (Str.ofString "/claim/cut.py") 593] }) ::
  (nat_lit 318, { cls := Value.type "function", data := Data.func { name := Str.ofString "kept_from", qualname := Str.ofString "kept_from", params := defArgs s_kept_from, body := FuncBody.stmts (defBody s_kept_from), scope := defScope s_kept_from, globals := 3, closure := [], defaults := Value.none, kwdefaults := Value.none, pyModule := Value.str (Str.ofString "keptseats.plan") 476, code := Value.ref 317 } }) ::
  (nat_lit 319, { cls := Value.type "tuple", data := Data.seq #[] }) ::
  (nat_lit 321, { cls := Value.type "tuple", data := Data.seq #[Value.str (Str.ofString "plan") 598, Value.str (Str.ofString "numbers") 599, Value.str (Str.ofString "rows") 600, Value.str (Str.ofString "i") 601, Value.str (Str.ofString "x") 602, Value.str (Str.ofString "kept") 603] }) ::
  (nat_lit 322, { cls := Value.type "tuple", data := Data.seq #[] }) ::
  (nat_lit 324, { cls := Value.type "code", data := Data.fields #[Value.str (Str.ofString "decide") 595, Value.str (Str.ofString "decide") 596, Value.str (Str.ofString "/claim/cut.py") 597, Value.int 163 0, Value.int 3 0, Value.int 0 0, Value.int 0 0, Value.int 3 0, Value.ref 319, Value.bool true, Value.int 181 0, Value.ref 320, Value.none, Value.ref 321, Value.ref 322, Value.ref 323, Value.int 604 0, Value.int 163 0, Value.str (Str.ofString "/claim/cut.py") 605] }) ::
  (nat_lit 325, { cls := Value.type "function", data := Data.func { name := Str.ofString "decide", qualname := Str.ofString "decide", params := defArgs s_decide, body := FuncBody.stmts (defBody s_decide), scope := defScope s_decide, globals := 3, closure := [], defaults := Value.none, kwdefaults := Value.none, pyModule := Value.str (Str.ofString "keptseats.plan") 476, code := Value.ref 324 } }) ::
  (nat_lit 326, { cls := Value.type "tuple", data := Data.seq #[] }) ::
  (nat_lit 329, { cls := Value.type "code", data := Data.fields #[Value.str (Str.ofString "with_revenue") 607, Value.str (Str.ofString "with_revenue") 608, Value.str (Str.ofString "/claim/cut.py") 609, Value.int 170 0, Value.int 2 0, Value.int 0 0, Value.int 0 0, Value.int 3 0, Value.ref 326, Value.bool true, Value.int 181 0, Value.ref 327, Value.none, Value.none, Value.none, Value.ref 328, Value.int 610 0, Value.int 170 0, Value.str (Str.ofString "/claim/cut.py") 611] }) ::
  (nat_lit 330, { cls := Value.type "function", data := Data.func { name := Str.ofString "with_revenue", qualname := Str.ofString "with_revenue", params := defArgs s_with_revenue, body := FuncBody.stmts (defBody s_with_revenue), scope := defScope s_with_revenue, globals := 3, closure := [], defaults := Value.none, kwdefaults := Value.none, pyModule := Value.str (Str.ofString "keptseats.plan") 476, code := Value.ref 329 } }) ::
  (nat_lit 331, { cls := Value.type "tuple", data := Data.seq #[] }) ::
  (nat_lit 333, { cls := Value.type "tuple", data := Data.seq #[Value.str (Str.ofString "plan") 616, Value.str (Str.ofString "numbers") 617, Value.str (Str.ofString "rows") 618, Value.str (Str.ofString "requested") 619, Value.str (Str.ofString "classes") 620, Value.str (Str.ofString "kept") 621, Value.str (Str.ofString "left") 622, Value.str (Str.ofString "sold") 623, Value.str (Str.ofString "i") 624] }) ::
  (nat_lit 334, { cls := Value.type "tuple", data := Data.seq #[] }) ::
  (nat_lit 336, { cls := Value.type "code", data := Data.fields #[Value.str (Str.ofString "play") 613, Value.str (Str.ofString "play") 614, Value.str (Str.ofString "/claim/cut.py") 615, Value.int 173 0, Value.int 3 0, Value.int 0 0, Value.int 0 0, Value.int 3 0, Value.ref 331, Value.bool true, Value.int 181 0, Value.ref 332, Value.none, Value.ref 333, Value.ref 334, Value.ref 335, Value.int 625 0, Value.int 173 0, Value.str (Str.ofString "/claim/cut.py") 626] }) ::
  (nat_lit 337, { cls := Value.type "function", data := Data.func { name := Str.ofString "play", qualname := Str.ofString "play", params := defArgs s_play, body := FuncBody.stmts (defBody s_play), scope := defScope s_play, globals := 3, closure := [], defaults := Value.none, kwdefaults := Value.none, pyModule := Value.str (Str.ofString "keptseats.plan") 476, code := Value.ref 336 } }) ::
  (nat_lit 338, { cls := Value.type "tuple", data := Data.seq #[] }) ::
  (nat_lit 340, { cls := Value.type "tuple", data := Data.seq #[Value.str (Str.ofString "plan") 631, Value.str (Str.ofString "numbers") 632, Value.str (Str.ofString "rows") 633, Value.str (Str.ofString "worth") 634] }) ::
  (nat_lit 341, { cls := Value.type "tuple", data := Data.seq #[] }) ::
  (nat_lit 343, { cls := Value.type "code", data := Data.fields #[Value.str (Str.ofString "mean") 628, Value.str (Str.ofString "mean") 629, Value.str (Str.ofString "/claim/cut.py") 630, Value.int 185 0, Value.int 3 0, Value.int 0 0, Value.int 0 0, Value.int 3 0, Value.ref 338, Value.bool true, Value.int 181 0, Value.ref 339, Value.none, Value.ref 340, Value.ref 341, Value.ref 342, Value.int 635 0, Value.int 185 0, Value.str (Str.ofString "/claim/cut.py") 636] }) ::
  (nat_lit 344, { cls := Value.type "function", data := Data.func { name := Str.ofString "mean", qualname := Str.ofString "mean", params := defArgs s_mean, body := FuncBody.stmts (defBody s_mean), scope := defScope s_mean, globals := 3, closure := [], defaults := Value.none, kwdefaults := Value.none, pyModule := Value.str (Str.ofString "keptseats.plan") 476, code := Value.ref 343 } }) ::
  (nat_lit 345, { cls := Value.type "tuple", data := Data.seq #[] }) ::
  (nat_lit 347, { cls := Value.type "tuple", data := Data.seq #[Value.str (Str.ofString "plan") 641, Value.str (Str.ofString "numbers") 642, Value.str (Str.ofString "rows") 643, Value.str (Str.ofString "left") 644, Value.str (Str.ofString "sold") 645, Value.str (Str.ofString "requested") 646, Value.str (Str.ofString "part") 647] }) ::
  (nat_lit 348, { cls := Value.type "tuple", data := Data.seq #[] }) ::
  (nat_lit 350, { cls := Value.type "code", data := Data.fields #[Value.str (Str.ofString "known") 638, Value.str (Str.ofString "known") 639, Value.str (Str.ofString "/claim/cut.py") 640, Value.int 190 0, Value.int 3 0, Value.int 0 0, Value.int 0 0, Value.int 3 0, Value.ref 345, Value.bool true, Value.int 181 0, Value.ref 346, Value.none, Value.ref 347, Value.ref 348, Value.ref 349, Value.int 648 0, Value.int 190 0, Value.str (Str.ofString "/claim/cut.py") 649] }) ::
  (nat_lit 351, { cls := Value.type "function", data := Data.func { name := Str.ofString "known", qualname := Str.ofString "known", params := defArgs s_known, body := FuncBody.stmts (defBody s_known), scope := defScope s_known, globals := 3, closure := [], defaults := Value.none, kwdefaults := Value.none, pyModule := Value.str (Str.ofString "keptseats.plan") 476, code := Value.ref 350 } }) ::
  (nat_lit 352, { cls := Value.type "tuple", data := Data.seq #[] }) ::
  (nat_lit 354, { cls := Value.type "tuple", data := Data.seq #[Value.str (Str.ofString "plan") 654, Value.str (Str.ofString "numbers") 655, Value.str (Str.ofString "rows") 656, Value.str (Str.ofString "fares") 657, Value.str (Str.ofString "weights") 658, Value.str (Str.ofString "worth") 659] }) ::
  (nat_lit 355, { cls := Value.type "tuple", data := Data.seq #[] }) ::
  (nat_lit 357, { cls := Value.type "code", data := Data.fields #[Value.str (Str.ofString "meanknown") 651, Value.str (Str.ofString "meanknown") 652, Value.str (Str.ofString "/claim/cut.py") 653, Value.int 200 0, Value.int 3 0, Value.int 0 0, Value.int 0 0, Value.int 3 0, Value.ref 352, Value.bool true, Value.int 181 0, Value.ref 353, Value.none, Value.ref 354, Value.ref 355, Value.ref 356, Value.int 660 0, Value.int 200 0, Value.str (Str.ofString "/claim/cut.py") 661] }) ::
  (nat_lit 358, { cls := Value.type "function", data := Data.func { name := Str.ofString "meanknown", qualname := Str.ofString "meanknown", params := defArgs s_meanknown, body := FuncBody.stmts (defBody s_meanknown), scope := defScope s_meanknown, globals := 3, closure := [], defaults := Value.none, kwdefaults := Value.none, pyModule := Value.str (Str.ofString "keptseats.plan") 476, code := Value.ref 357 } }) ::
  (nat_lit 359, { cls := Value.type "tuple", data := Data.seq #[] }) ::
  (nat_lit 361, { cls := Value.type "tuple", data := Data.seq #[Value.str (Str.ofString "plan") 666, Value.str (Str.ofString "numbers") 667, Value.str (Str.ofString "rows") 668, Value.str (Str.ofString "weights") 669] }) ::
  (nat_lit 362, { cls := Value.type "tuple", data := Data.seq #[] }) ::
  (nat_lit 364, { cls := Value.type "code", data := Data.fields #[Value.str (Str.ofString "chance") 663, Value.str (Str.ofString "chance") 664, Value.str (Str.ofString "/claim/cut.py") 665, Value.int 205 0, Value.int 3 0, Value.int 0 0, Value.int 0 0, Value.int 3 0, Value.ref 359, Value.bool true, Value.int 181 0, Value.ref 360, Value.none, Value.ref 361, Value.ref 362, Value.ref 363, Value.int 670 0, Value.int 205 0, Value.str (Str.ofString "/claim/cut.py") 671] }) ::
  (nat_lit 365, { cls := Value.type "function", data := Data.func { name := Str.ofString "chance", qualname := Str.ofString "chance", params := defArgs s_chance, body := FuncBody.stmts (defBody s_chance), scope := defScope s_chance, globals := 3, closure := [], defaults := Value.none, kwdefaults := Value.none, pyModule := Value.str (Str.ofString "keptseats.plan") 476, code := Value.ref 364 } }) ::
  (nat_lit 366, { cls := Value.type "tuple", data := Data.seq #[] }) ::
  (nat_lit 369, { cls := Value.type "code", data := Data.fields #[Value.str (Str.ofString "asked") 673, Value.str (Str.ofString "asked") 674, Value.str (Str.ofString "/claim/cut.py") 675, Value.int 208 0, Value.int 3 0, Value.int 0 0, Value.int 0 0, Value.int 3 0, Value.ref 366, Value.bool true, Value.int 181 0, Value.ref 367, Value.none, Value.none, Value.none, Value.ref 368, Value.int 676 0, Value.int 208 0, Value.str (Str.ofString "/claim/cut.py") 677] }) ::
  (nat_lit 370, { cls := Value.type "function", data := Data.func { name := Str.ofString "asked", qualname := Str.ofString "asked", params := defArgs s_asked, body := FuncBody.stmts (defBody s_asked), scope := defScope s_asked, globals := 3, closure := [], defaults := Value.none, kwdefaults := Value.none, pyModule := Value.str (Str.ofString "keptseats.plan") 476, code := Value.ref 369 } }) ::
  (nat_lit 371, { cls := Value.type "tuple", data := Data.seq #[] }) ::
  (nat_lit 373, { cls := Value.type "tuple", data := Data.seq #[Value.str (Str.ofString "plan") 682, Value.str (Str.ofString "numbers") 683, Value.str (Str.ofString "rows") 684, Value.str (Str.ofString "weights") 685] }) ::
  (nat_lit 374, { cls := Value.type "tuple", data := Data.seq #[] }) ::
  (nat_lit 376, { cls := Value.type "code", data := Data.fields #[Value.str (Str.ofString "period") 679, Value.str (Str.ofString "period") 680, Value.str (Str.ofString "/claim/cut.py") 681, Value.int 212 0, Value.int 3 0, Value.int 0 0, Value.int 0 0, Value.int 3 0, Value.ref 371, Value.bool true, Value.int 181 0, Value.ref 372, Value.none, Value.ref 373, Value.ref 374, Value.ref 375, Value.int 686 0, Value.int 212 0, Value.str (Str.ofString "/claim/cut.py") 687] }) ::
  (nat_lit 377, { cls := Value.type "function", data := Data.func { name := Str.ofString "period", qualname := Str.ofString "period", params := defArgs s_period, body := FuncBody.stmts (defBody s_period), scope := defScope s_period, globals := 3, closure := [], defaults := Value.none, kwdefaults := Value.none, pyModule := Value.str (Str.ofString "keptseats.plan") 476, code := Value.ref 376 } }) ::
  (nat_lit 378, { cls := Value.type "tuple", data := Data.seq #[] }) ::
  (nat_lit 380, { cls := Value.type "tuple", data := Data.seq #[Value.str (Str.ofString "plan") 692, Value.str (Str.ofString "t") 693, Value.str (Str.ofString "x") 694] }) ::
  (nat_lit 381, { cls := Value.type "tuple", data := Data.seq #[] }) ::
  (nat_lit 383, { cls := Value.type "code", data := Data.fields #[Value.str (Str.ofString "span_refused") 689, Value.str (Str.ofString "span_refused") 690, Value.str (Str.ofString "/claim/cut.py") 691, Value.int 222 0, Value.int 3 0, Value.int 0 0, Value.int 0 0, Value.int 3 0, Value.ref 378, Value.bool true, Value.int 181 0, Value.ref 379, Value.none, Value.ref 380, Value.ref 381, Value.ref 382, Value.int 695 0, Value.int 222 0, Value.str (Str.ofString "/claim/cut.py") 696] }) ::
  (nat_lit 384, { cls := Value.type "function", data := Data.func { name := Str.ofString "span_refused", qualname := Str.ofString "span_refused", params := defArgs s_span_refused, body := FuncBody.stmts (defBody s_span_refused), scope := defScope s_span_refused, globals := 3, closure := [], defaults := Value.none, kwdefaults := Value.none, pyModule := Value.str (Str.ofString "keptseats.plan") 476, code := Value.ref 383 } }) ::
  (nat_lit 385, { cls := Value.type "tuple", data := Data.seq #[] }) ::
  (nat_lit 387, { cls := Value.type "tuple", data := Data.seq #[Value.str (Str.ofString "plan") 701, Value.str (Str.ofString "t") 702, Value.str (Str.ofString "x") 703] }) ::
  (nat_lit 388, { cls := Value.type "tuple", data := Data.seq #[] }) ::
  (nat_lit 390, { cls := Value.type "code", data := Data.fields #[Value.str (Str.ofString "span_worth") 698, Value.str (Str.ofString "span_worth") 699, Value.str (Str.ofString "/claim/cut.py") 700, Value.int 228 0, Value.int 3 0, Value.int 0 0, Value.int 0 0, Value.int 3 0, Value.ref 385, Value.bool true, Value.int 181 0, Value.ref 386, Value.none, Value.ref 387, Value.ref 388, Value.ref 389, Value.int 704 0, Value.int 228 0, Value.str (Str.ofString "/claim/cut.py") 705] }) ::
  (nat_lit 391, { cls := Value.type "function", data := Data.func { name := Str.ofString "span_worth", qualname := Str.ofString "span_worth", params := defArgs s_span_worth, body := FuncBody.stmts (defBody s_span_worth), scope := defScope s_span_worth, globals := 3, closure := [], defaults := Value.none, kwdefaults := Value.none, pyModule := Value.str (Str.ofString "keptseats.plan") 476, code := Value.ref 390 } }) ::
  (nat_lit 392, { cls := Value.type "tuple", data := Data.seq #[] }) ::
  (nat_lit 394, { cls := Value.type "tuple", data := Data.seq #[Value.str (Str.ofString "plan") 710, Value.str (Str.ofString "numbers") 711, Value.str (Str.ofString "rows") 712, Value.str (Str.ofString "t") 713, Value.str (Str.ofString "x") 714, Value.str (Str.ofString "refusal") 715, Value.str (Str.ofString "worth") 716] }) ::
  (nat_lit 395, { cls := Value.type "tuple", data := Data.seq #[] }) ::
  (nat_lit 397, { cls := Value.type "code", data := Data.fields #[Value.str (Str.ofString "spanvalue") 707, Value.str (Str.ofString "spanvalue") 708, Value.str (Str.ofString "/claim/cut.py") 709, Value.int 230 0, Value.int 3 0, Value.int 0 0, Value.int 0 0, Value.int 3 0, Value.ref 392, Value.bool true, Value.int 181 0, Value.ref 393, Value.none, Value.ref 394, Value.ref 395, Value.ref 396, Value.int 717 0, Value.int 230 0, Value.str (Str.ofString "/claim/cut.py") 718] }) ::
  (nat_lit 398, { cls := Value.type "function", data := Data.func { name := Str.ofString "spanvalue", qualname := Str.ofString "spanvalue", params := defArgs s_spanvalue, body := FuncBody.stmts (defBody s_spanvalue), scope := defScope s_spanvalue, globals := 3, closure := [], defaults := Value.none, kwdefaults := Value.none, pyModule := Value.str (Str.ofString "keptseats.plan") 476, code := Value.ref 397 } }) ::
  (nat_lit 399, { cls := Value.type "tuple", data := Data.seq #[] }) ::
  (nat_lit 402, { cls := Value.type "code", data := Data.fields #[Value.str (Str.ofString "accept") 720, Value.str (Str.ofString "accept") 721, Value.str (Str.ofString "/claim/cut.py") 722, Value.int 238 0, Value.int 3 0, Value.int 0 0, Value.int 0 0, Value.int 3 0, Value.ref 399, Value.bool true, Value.int 181 0, Value.ref 400, Value.none, Value.none, Value.none, Value.ref 401, Value.int 723 0, Value.int 238 0, Value.str (Str.ofString "/claim/cut.py") 724] }) ::
  (nat_lit 403, { cls := Value.type "function", data := Data.func { name := Str.ofString "accept", qualname := Str.ofString "accept", params := defArgs s_accept, body := FuncBody.stmts (defBody s_accept), scope := defScope s_accept, globals := 3, closure := [], defaults := Value.none, kwdefaults := Value.none, pyModule := Value.str (Str.ofString "keptseats.plan") 476, code := Value.ref 402 } }) ::
  (nat_lit 404, { cls := Value.type "tuple", data := Data.seq #[] }) ::
  (nat_lit 407, { cls := Value.type "code", data := Data.fields #[Value.str (Str.ofString "requests") 726, Value.str (Str.ofString "requests") 727, Value.str (Str.ofString "/claim/cut.py") 728, Value.int 246 0, Value.int 3 0, Value.int 0 0, Value.int 0 0, Value.int 3 0, Value.ref 404, Value.bool true, Value.int 181 0, Value.ref 405, Value.none, Value.none, Value.none, Value.ref 406, Value.int 729 0, Value.int 246 0, Value.str (Str.ofString "/claim/cut.py") 730] }) ::
  (nat_lit 408, { cls := Value.type "function", data := Data.func { name := Str.ofString "requests", qualname := Str.ofString "requests", params := defArgs s_requests, body := FuncBody.stmts (defBody s_requests), scope := defScope s_requests, globals := 3, closure := [], defaults := Value.none, kwdefaults := Value.none, pyModule := Value.str (Str.ofString "keptseats.plan") 476, code := Value.ref 407 } }) ::
  (nat_lit 409, { cls := Value.type "tuple", data := Data.seq #[] }) ::
  (nat_lit 411, { cls := Value.type "tuple", data := Data.seq #[Value.str (Str.ofString "plan") 735, Value.str (Str.ofString "numbers") 736, Value.str (Str.ofString "rows") 737] }) ::
  (nat_lit 412, { cls := Value.type "tuple", data := Data.seq #[] }) ::
  (nat_lit 414, { cls := Value.type "code", data := Data.fields #[Value.str (Str.ofString "clear") 732, Value.str (Str.ofString "clear") 733, Value.str (Str.ofString "/claim/cut.py") 734, Value.int 266 0, Value.int 3 0, Value.int 0 0, Value.int 0 0, Value.int 3 0, Value.ref 409, Value.bool true, Value.int 181 0, Value.ref 410, Value.none, Value.ref 411, Value.ref 412, Value.ref 413, Value.int 738 0, Value.int 266 0, Value.str (Str.ofString "/claim/cut.py") 739] }) ::
  (nat_lit 415, { cls := Value.type "function", data := Data.func { name := Str.ofString "clear", qualname := Str.ofString "clear", params := defArgs s_clear, body := FuncBody.stmts (defBody s_clear), scope := defScope s_clear, globals := 3, closure := [], defaults := Value.none, kwdefaults := Value.none, pyModule := Value.str (Str.ofString "keptseats.plan") 476, code := Value.ref 414 } }) ::
  (nat_lit 416, { cls := Value.type "tuple", data := Data.seq #[] }) ::
  (nat_lit 418, { cls := Value.type "tuple", data := Data.seq #[Value.str (Str.ofString "plan") 744, Value.str (Str.ofString "numbers") 745, Value.str (Str.ofString "rows") 746] }) ::
  (nat_lit 419, { cls := Value.type "tuple", data := Data.seq #[] }) ::
  (nat_lit 421, { cls := Value.type "code", data := Data.fields #[Value.str (Str.ofString "shown") 741, Value.str (Str.ofString "shown") 742, Value.str (Str.ofString "/claim/cut.py") 743, Value.int 269 0, Value.int 3 0, Value.int 0 0, Value.int 0 0, Value.int 3 0, Value.ref 416, Value.bool true, Value.int 181 0, Value.ref 417, Value.none, Value.ref 418, Value.ref 419, Value.ref 420, Value.int 747 0, Value.int 269 0, Value.str (Str.ofString "/claim/cut.py") 748] }) ::
  (nat_lit 422, { cls := Value.type "function", data := Data.func { name := Str.ofString "shown", qualname := Str.ofString "shown", params := defArgs s_shown, body := FuncBody.stmts (defBody s_shown), scope := defScope s_shown, globals := 3, closure := [], defaults := Value.none, kwdefaults := Value.none, pyModule := Value.str (Str.ofString "keptseats.plan") 476, code := Value.ref 421 } }) ::
  (nat_lit 423, { cls := Value.type "tuple", data := Data.seq #[Value.ref 269, Value.ref 276, Value.ref 283, Value.ref 297, Value.ref 304, Value.ref 311, Value.ref 325, Value.ref 337, Value.ref 344, Value.ref 351, Value.ref 358, Value.ref 365, Value.ref 370, Value.ref 377, Value.ref 398, Value.ref 403, Value.ref 408, Value.ref 415, Value.ref 422] }) ::
  (nat_lit 424, { cls := Value.type "tuple", data := Data.seq #[] }) ::
  (nat_lit 426, { cls := Value.type "tuple", data := Data.seq #[Value.str (Str.ofString "plan") 754, Value.str (Str.ofString "call") 755] }) ::
  (nat_lit 427, { cls := Value.type "tuple", data := Data.seq #[] }) ::
  (nat_lit 429, { cls := Value.type "code", data := Data.fields #[Value.str (Str.ofString "refused") 751, Value.str (Str.ofString "refused") 752, Value.str (Str.ofString "/claim/cut.py") 753, Value.int 272 0, Value.int 2 0, Value.int 0 0, Value.int 0 0, Value.int 3 0, Value.ref 424, Value.bool true, Value.int 181 0, Value.ref 425, Value.none, Value.ref 426, Value.ref 427, Value.ref 428, Value.int 756 0, Value.int 272 0, Value.str (Str.ofString "/claim/cut.py") 757] }) ::
  (nat_lit 430, { cls := Value.type "function", data := Data.func { name := Str.ofString "refused", qualname := Str.ofString "refused", params := defArgs s_refused, body := FuncBody.stmts (defBody s_refused), scope := defScope s_refused, globals := 3, closure := [], defaults := Value.none, kwdefaults := Value.none, pyModule := Value.str (Str.ofString "keptseats.plan") 476, code := Value.ref 429 } }) ::
  (nat_lit 431, { cls := Value.type "tuple", data := Data.seq #[] }) ::
  (nat_lit 433, { cls := Value.type "tuple", data := Data.seq #[Value.str (Str.ofString "plan") 762, Value.str (Str.ofString "call") 763, Value.str (Str.ofString "refusal") 764, Value.str (Str.ofString "handler") 765] }) ::
  (nat_lit 434, { cls := Value.type "tuple", data := Data.seq #[] }) ::
  (nat_lit 436, { cls := Value.type "code", data := Data.fields #[Value.str (Str.ofString "answer") 759, Value.str (Str.ofString "answer") 760, Value.str (Str.ofString "/claim/cut.py") 761, Value.int 282 0, Value.int 2 0, Value.int 0 0, Value.int 0 0, Value.int 3 0, Value.ref 431, Value.bool true, Value.int 181 0, Value.ref 432, Value.none, Value.ref 433, Value.ref 434, Value.ref 435, Value.int 766 0, Value.int 282 0, Value.str (Str.ofString "/claim/cut.py") 767] }) ::
  (nat_lit 437, { cls := Value.type "function", data := Data.func { name := Str.ofString "answer", qualname := Str.ofString "answer", params := defArgs s_answer, body := FuncBody.stmts (defBody s_answer), scope := defScope s_answer, globals := 3, closure := [], defaults := Value.none, kwdefaults := Value.none, pyModule := Value.str (Str.ofString "keptseats.plan") 476, code := Value.ref 436 } }) ::
  (nat_lit 438, { cls := Value.type "tuple", data := Data.seq #[] }) ::
  (nat_lit 440, { cls := Value.type "tuple", data := Data.seq #[Value.str (Str.ofString "calls") 772, Value.str (Str.ofString "plan") 773, Value.str (Str.ofString "answered") 774, Value.str (Str.ofString "start") 775, Value.str (Str.ofString "call") 776, Value.str (Str.ofString "numbers") 777] }) ::
  (nat_lit 441, { cls := Value.type "tuple", data := Data.seq #[] }) ::
  (nat_lit 443, { cls := Value.type "code", data := Data.fields #[Value.str (Str.ofString "answers") 769, Value.str (Str.ofString "answers") 770, Value.str (Str.ofString "/claim/cut.py") 771, Value.int 288 0, Value.int 1 0, Value.int 0 0, Value.int 0 0, Value.int 3 0, Value.ref 438, Value.bool true, Value.int 181 0, Value.ref 439, Value.none, Value.ref 440, Value.ref 441, Value.ref 442, Value.int 778 0, Value.int 288 0, Value.str (Str.ofString "/claim/cut.py") 779] }) ::
  (nat_lit 444, { cls := Value.type "function", data := Data.func { name := Str.ofString "answers", qualname := Str.ofString "answers", params := defArgs s_answers, body := FuncBody.stmts (defBody s_answers), scope := defScope s_answers, globals := 3, closure := [], defaults := Value.none, kwdefaults := Value.none, pyModule := Value.str (Str.ofString "keptseats.plan") 476, code := Value.ref 443 } }) :: []
def KA : List Addr := [nat_lit 2, nat_lit 3, nat_lit 15, nat_lit 16, nat_lit 17, nat_lit 18, nat_lit 19, nat_lit 20, nat_lit 21, nat_lit 22, nat_lit 23, nat_lit 24, nat_lit 25, nat_lit 26, nat_lit 27, nat_lit 28, nat_lit 29, nat_lit 30, nat_lit 31, nat_lit 32, nat_lit 33, nat_lit 34, nat_lit 35, nat_lit 36, nat_lit 37, nat_lit 38, nat_lit 39, nat_lit 40, nat_lit 41, nat_lit 42, nat_lit 43, nat_lit 44, nat_lit 45, nat_lit 46, nat_lit 47, nat_lit 48, nat_lit 49, nat_lit 50, nat_lit 51, nat_lit 52, nat_lit 53, nat_lit 54, nat_lit 55, nat_lit 56, nat_lit 57, nat_lit 58, nat_lit 59, nat_lit 60, nat_lit 61, nat_lit 62, nat_lit 63, nat_lit 64, nat_lit 65, nat_lit 66, nat_lit 67, nat_lit 68, nat_lit 69, nat_lit 70, nat_lit 71, nat_lit 72, nat_lit 73, nat_lit 74, nat_lit 75, nat_lit 76, nat_lit 77, nat_lit 78, nat_lit 79, nat_lit 80, nat_lit 81, nat_lit 82, nat_lit 83, nat_lit 84, nat_lit 85, nat_lit 86, nat_lit 87, nat_lit 88, nat_lit 89, nat_lit 90, nat_lit 91, nat_lit 92, nat_lit 93, nat_lit 94, nat_lit 95, nat_lit 96, nat_lit 97, nat_lit 98, nat_lit 106, nat_lit 108, nat_lit 109, nat_lit 111, nat_lit 112, nat_lit 113, nat_lit 114, nat_lit 115, nat_lit 116, nat_lit 117, nat_lit 120, nat_lit 122, nat_lit 123, nat_lit 125, nat_lit 126, nat_lit 127, nat_lit 130, nat_lit 131, nat_lit 139, nat_lit 141, nat_lit 142, nat_lit 144, nat_lit 145, nat_lit 146, nat_lit 147, nat_lit 148, nat_lit 149, nat_lit 150, nat_lit 153, nat_lit 155, nat_lit 156, nat_lit 158, nat_lit 159, nat_lit 160, nat_lit 162, nat_lit 163, nat_lit 165, nat_lit 166, nat_lit 167, nat_lit 169, nat_lit 170, nat_lit 172, nat_lit 173, nat_lit 174, nat_lit 176, nat_lit 177, nat_lit 179, nat_lit 180, nat_lit 181, nat_lit 183, nat_lit 184, nat_lit 186, nat_lit 187, nat_lit 188, nat_lit 190, nat_lit 191, nat_lit 193, nat_lit 194, nat_lit 195, nat_lit 198, nat_lit 199, nat_lit 200, nat_lit 203, nat_lit 204, nat_lit 205, nat_lit 207, nat_lit 208, nat_lit 210, nat_lit 211, nat_lit 212, nat_lit 215, nat_lit 216, nat_lit 217, nat_lit 219, nat_lit 220, nat_lit 222, nat_lit 223, nat_lit 224, nat_lit 227, nat_lit 228, nat_lit 229, nat_lit 231, nat_lit 232, nat_lit 234, nat_lit 235, nat_lit 236, nat_lit 238, nat_lit 239, nat_lit 241, nat_lit 242, nat_lit 243, nat_lit 251, nat_lit 253, nat_lit 254, nat_lit 256, nat_lit 257, nat_lit 258, nat_lit 259, nat_lit 260, nat_lit 261, nat_lit 262, nat_lit 265, nat_lit 268, nat_lit 269, nat_lit 270, nat_lit 272, nat_lit 273, nat_lit 275, nat_lit 276, nat_lit 277, nat_lit 279, nat_lit 280, nat_lit 282, nat_lit 283, nat_lit 284, nat_lit 286, nat_lit 287, nat_lit 289, nat_lit 290, nat_lit 291, nat_lit 293, nat_lit 294, nat_lit 296, nat_lit 297, nat_lit 298, nat_lit 300, nat_lit 301, nat_lit 303, nat_lit 304, nat_lit 305, nat_lit 307, nat_lit 308, nat_lit 310, nat_lit 311, nat_lit 312, nat_lit 314, nat_lit 315, nat_lit 317, nat_lit 318, nat_lit 319, nat_lit 321, nat_lit 322, nat_lit 324, nat_lit 325, nat_lit 326, nat_lit 329, nat_lit 330, nat_lit 331, nat_lit 333, nat_lit 334, nat_lit 336, nat_lit 337, nat_lit 338, nat_lit 340, nat_lit 341, nat_lit 343, nat_lit 344, nat_lit 345, nat_lit 347, nat_lit 348, nat_lit 350, nat_lit 351, nat_lit 352, nat_lit 354, nat_lit 355, nat_lit 357, nat_lit 358, nat_lit 359, nat_lit 361, nat_lit 362, nat_lit 364, nat_lit 365, nat_lit 366, nat_lit 369, nat_lit 370, nat_lit 371, nat_lit 373, nat_lit 374, nat_lit 376, nat_lit 377, nat_lit 378, nat_lit 380, nat_lit 381, nat_lit 383, nat_lit 384, nat_lit 385, nat_lit 387, nat_lit 388, nat_lit 390, nat_lit 391, nat_lit 392, nat_lit 394, nat_lit 395, nat_lit 397, nat_lit 398, nat_lit 399, nat_lit 402, nat_lit 403, nat_lit 404, nat_lit 407, nat_lit 408, nat_lit 409, nat_lit 411, nat_lit 412, nat_lit 414, nat_lit 415, nat_lit 416, nat_lit 418, nat_lit 419, nat_lit 421, nat_lit 422, nat_lit 423, nat_lit 424, nat_lit 426, nat_lit 427, nat_lit 429, nat_lit 430, nat_lit 431, nat_lit 433, nat_lit 434, nat_lit 436, nat_lit 437, nat_lit 438, nat_lit 440, nat_lit 441, nat_lit 443, nat_lit 444]
def view : Program := { PySem.Challenge.pw_keptseats_s01_answers with main := { PySem.Challenge.pw_keptseats_s01_answers.main with body := [top 1, top 2, top 3, top 4, top 6, top 7, top 8, top 9, top 10, top 11, top 12, top 13, top 14, top 15, top 16, top 18, top 19, top 20, top 21, top 23, top 24, top 25, top 26, top 27, top 28, top 29, top 30, top 31, top 32, top 33, top 34, top 35, top 36, top 37, top 38, top 39, top 40, top 41, top 42, top 43, top 44, top 45, top 46, top 47, top 48, top 49, top 50, top 51, top 52, top 53, top 54] } }
theorem KA_eq : ∀ P, KA = (KF P).map (·.1) := fun P => rfl
open PySem.W
abbrev pp : Program := PySem.Challenge.pw_keptseats_s01_answers
def zipBy : List Bool → List Obj → List Obj → List Obj
  | true :: p, a :: as, bs => a :: zipBy p as bs
  | false :: p, as, b :: bs => b :: zipBy p as bs
  | _, _, _ => []
def pat : List Bool := false :: false :: true :: true :: false :: false :: false :: false :: false :: false :: false :: false :: false :: false :: false :: true :: true :: true :: true :: true :: true :: true :: true :: true :: true :: true :: true :: true :: true :: true :: true :: true :: true :: true :: true :: true :: true :: true :: true :: true :: true :: true :: true :: true :: true :: true :: true :: true :: true :: true :: true :: true :: true :: true :: true :: true :: true :: true :: true :: true :: true :: true :: true :: true :: true :: true :: true :: true :: true :: true :: true :: true :: true :: true :: true :: true :: true :: true :: true :: true :: true :: true :: true :: true :: true :: true :: true :: true :: true :: true :: true :: true :: true :: true :: true :: true :: true :: true :: true :: false :: false :: false :: false :: false :: false :: false :: true :: false :: true :: true :: false :: true :: true :: true :: true :: true :: true :: true :: false :: false :: true :: false :: true :: true :: false :: true :: true :: true :: false :: false :: true :: true :: false :: false :: false :: false :: false :: false :: false :: true :: false :: true :: true :: false :: true :: true :: true :: true :: true :: true :: true :: false :: false :: true :: false :: true :: true :: false :: true :: true :: true :: false :: true :: true :: false :: true :: true :: true :: false :: true :: true :: false :: true :: true :: true :: false :: true :: true :: false :: true :: true :: true :: false :: true :: true :: false :: true :: true :: true :: false :: true :: true :: false :: true :: true :: true :: false :: false :: true :: true :: true :: false :: false :: true :: true :: true :: false :: true :: true :: false :: true :: true :: true :: false :: false :: true :: true :: true :: false :: true :: true :: false :: true :: true :: true :: false :: false :: true :: true :: true :: false :: true :: true :: false :: true :: true :: true :: false :: true :: true :: false :: true :: true :: true :: false :: false :: false :: false :: false :: false :: false :: true :: false :: true :: true :: false :: true :: true :: true :: true :: true :: true :: true :: false :: false :: true :: false :: false :: true :: true :: true :: false :: true :: true :: false :: true :: true :: true :: false :: true :: true :: false :: true :: true :: true :: false :: true :: true :: false :: true :: true :: true :: false :: true :: true :: false :: true :: true :: true :: false :: true :: true :: false :: true :: true :: true :: false :: true :: true :: false :: true :: true :: true :: false :: true :: true :: false :: true :: true :: true :: false :: true :: true :: false :: true :: true :: true :: false :: false :: true :: true :: true :: false :: true :: true :: false :: true :: true :: true :: false :: true :: true :: false :: true :: true :: true :: false :: true :: true :: false :: true :: true :: true :: false :: true :: true :: false :: true :: true :: true :: false :: true :: true :: false :: true :: true :: true :: false :: false :: true :: true :: true :: false :: true :: true :: false :: true :: true :: true :: false :: true :: true :: false :: true :: true :: true :: false :: true :: true :: false :: true :: true :: true :: false :: true :: true :: false :: true :: true :: true :: false :: false :: true :: true :: true :: false :: false :: true :: true :: true :: false :: true :: true :: false :: true :: true :: true :: false :: true :: true :: false :: true :: true :: true :: true :: false :: true :: true :: false :: true :: true :: true :: false :: true :: true :: false :: true :: true :: true :: false :: true :: true :: false :: true :: true :: []
noncomputable def RH (P : Params) : List Obj :=
  (boot_o_0 P : Obj) ::
  (boot_o_1 P : Obj) ::
  (boot_o_4 P : Obj) ::
  (boot_o_5 P : Obj) ::
  (boot_o_6 P : Obj) ::
  (boot_o_7 P : Obj) ::
  (boot_o_8 P : Obj) ::
  (boot_o_9 P : Obj) ::
  (boot_o_10 P : Obj) ::
  ({ cls := Value.type "tuple", data := Data.seq #[] } : Obj) ::
  ({ cls := Value.none, data := Data.fields #[Value.int 3 0, Value.int 0 0, Value.ref 104, Value.int 10 0, Value.int 0 0, Value.ref 125, Value.int 21 0, Value.int 0 0, Value.ref 130, Value.int 33 0, Value.int 0 0, Value.ref 137, Value.int 38 0, Value.int 0 0, Value.ref 158, Value.int 40 0, Value.int 0 0, Value.ref 165, Value.int 46 0, Value.int 0 0, Value.ref 172, Value.int 49 0, Value.int 0 0, Value.ref 179, Value.int 51 0, Value.int 0 0, Value.ref 186, Value.int 59 0, Value.int 0 0, Value.ref 193, Value.int 65 0, Value.int 0 0, Value.ref 198, Value.int 74 0, Value.int 0 0, Value.ref 203, Value.int 81 0, Value.int 0 0, Value.ref 210, Value.int 87 0, Value.int 0 0, Value.ref 215, Value.int 91 0, Value.int 0 0, Value.ref 222, Value.int 96 0, Value.int 0 0, Value.ref 227, Value.int 100 0, Value.int 0 0, Value.ref 234, Value.int 105 0, Value.int 0 0, Value.ref 241, Value.int 113 0, Value.int 0 0, Value.ref 249, Value.int 120 0, Value.int 0 0, Value.ref 268, Value.int 130 0, Value.int 0 0, Value.ref 275, Value.int 135 0, Value.int 0 0, Value.ref 282, Value.int 144 0, Value.int 0 0, Value.ref 289, Value.int 147 0, Value.int 0 0, Value.ref 296, Value.int 153 0, Value.int 0 0, Value.ref 303, Value.int 159 0, Value.int 0 0, Value.ref 310, Value.int 161 0, Value.int 0 0, Value.ref 317, Value.int 163 0, Value.int 0 0, Value.ref 324, Value.int 170 0, Value.int 0 0, Value.ref 329, Value.int 173 0, Value.int 0 0, Value.ref 336, Value.int 185 0, Value.int 0 0, Value.ref 343, Value.int 190 0, Value.int 0 0, Value.ref 350, Value.int 200 0, Value.int 0 0, Value.ref 357, Value.int 205 0, Value.int 0 0, Value.ref 364, Value.int 208 0, Value.int 0 0, Value.ref 369, Value.int 212 0, Value.int 0 0, Value.ref 376, Value.int 222 0, Value.int 0 0, Value.ref 383, Value.int 228 0, Value.int 0 0, Value.ref 390, Value.int 230 0, Value.int 0 0, Value.ref 397, Value.int 238 0, Value.int 0 0, Value.ref 402, Value.int 246 0, Value.int 0 0, Value.ref 407, Value.int 266 0, Value.int 0 0, Value.ref 414, Value.int 269 0, Value.int 0 0, Value.ref 421, Value.int 272 0, Value.int 0 0, Value.ref 429, Value.int 282 0, Value.int 0 0, Value.ref 436, Value.int 288 0, Value.int 0 0, Value.ref 443] } : Obj) ::
  ({ cls := Value.type "code", data := Data.fields #[Value.str (Str.ofString "<module>") 182, Value.str (Str.ofString "<module>") 183, Value.str (Str.ofString "/claim/cut.py") 184, Value.int 1 0, Value.int 0 0, Value.int 0 0, Value.int 0 0, Value.int 0 0, Value.ref 11, Value.bool false, Value.int 181 0, Value.ref 12, Value.none, Value.none, Value.none, Value.none, Value.int 185 0, Value.int 1 0, Value.str (Str.ofString "/claim/cut.py") 186] } : Obj) ::
  ({ cls := Value.type "frame", slots := #[some (Value.ref 13), some (Value.ref 3), some (Value.ref 3), none, some (Value.str (Str.ofString "__main__") 164), none, some (Value.ref 0)] } : Obj) ::
  ({ cls := Value.type "tuple", data := Data.seq #[] } : Obj) ::
  ({ cls := Value.type "builtin_function_or_method", data := Data.fields #[Value.builtin "type.__prepare__", Value.type "type"] } : Obj) ::
  ({ cls := Value.type "dict", data := Data.dict #[{ hash := PyData.keyHash P (Str.ofString "__module__"), key := Value.str (Str.ofString "__module__") 263, val := Value.str (Str.ofString "keptseats.forms") 187 }, { hash := PyData.keyHash P (Str.ofString "__qualname__"), key := Value.str (Str.ofString "__qualname__") 265, val := Value.str (Str.ofString "Call") 264 }, { hash := PyData.keyHash P (Str.ofString "__firstlineno__"), key := Value.str (Str.ofString "__firstlineno__") 267, val := Value.int 3 266 }, { hash := PyData.keyHash P (Str.ofString "__init__"), key := Value.str (Str.ofString "__init__") 278, val := Value.ref 112 }, { hash := PyData.keyHash P (Str.ofString "__static_attributes__"), key := Value.str (Str.ofString "__static_attributes__") 283, val := Value.ref 113 }] 5 } : Obj) ::
  ({ cls := Value.type "tuple", data := Data.seq #[] } : Obj) ::
  ({ cls := Value.none, data := Data.fields #[Value.int 5 0, Value.int 4 0, Value.ref 111] } : Obj) ::
  ({ cls := Value.type "code", data := Data.fields #[Value.str (Str.ofString "Call") 258, Value.str (Str.ofString "Call") 259, Value.str (Str.ofString "/claim/cut.py") 260, Value.int 3 0, Value.int 0 0, Value.int 0 0, Value.int 0 0, Value.int 0 0, Value.ref 102, Value.bool false, Value.int 181 0, Value.ref 103, Value.none, Value.none, Value.none, Value.none, Value.int 261 0, Value.int 3 0, Value.str (Str.ofString "/claim/cut.py") 262] } : Obj) ::
  ({ cls := Value.type "frame", slots := #[some (Value.ref 104), some (Value.ref 3), some (Value.ref 101), none, some (Value.str (Str.ofString "keptseats.forms") 187), none, some (Value.ref 0)] } : Obj) ::
  ({ cls := Value.none, data := Data.fields #[] } : Obj) ::
  ({ cls := Value.none, data := Data.func { name := Str.ofString "__init__", qualname := Str.ofString "Call.__init__", params := defArgs s_init_Call, body := FuncBody.stmts (defBody s_init_Call), scope := defScope s_init_Call, globals := 0, closure := [], defaults := Value.none, kwdefaults := Value.none } } : Obj) ::
  ({ cls := Value.type "super", data := Data.fields #[Value.ref 115, Value.ref 115, Value.ref 115] } : Obj) ::
  ({ cls := Value.type "builtin_function_or_method", data := Data.fields #[Value.builtin "object.__init_subclass__", Value.ref 115] } : Obj) ::
  ({ cls := Value.none, data := Data.fields #[] } : Obj) ::
  ({ cls := Value.none, data := Data.func { name := Str.ofString "read_call", qualname := Str.ofString "read_call", params := defArgs s_read_call, body := FuncBody.stmts (defBody s_read_call), scope := defScope s_read_call, globals := 0, closure := [], defaults := Value.none, kwdefaults := Value.none } } : Obj) ::
  ({ cls := Value.none, data := Data.fields #[] } : Obj) ::
  ({ cls := Value.none, data := Data.func { name := Str.ofString "in_ranges", qualname := Str.ofString "in_ranges", params := defArgs s_in_ranges, body := FuncBody.stmts (defBody s_in_ranges), scope := defScope s_in_ranges, globals := 0, closure := [], defaults := Value.none, kwdefaults := Value.none } } : Obj) ::
  ({ cls := Value.type "tuple", data := Data.seq #[] } : Obj) ::
  ({ cls := Value.type "builtin_function_or_method", data := Data.fields #[Value.builtin "type.__prepare__", Value.type "type"] } : Obj) ::
  ({ cls := Value.type "dict", data := Data.dict #[{ hash := PyData.keyHash P (Str.ofString "__module__"), key := Value.str (Str.ofString "__module__") 320, val := Value.str (Str.ofString "keptseats.worth") 311 }, { hash := PyData.keyHash P (Str.ofString "__qualname__"), key := Value.str (Str.ofString "__qualname__") 322, val := Value.str (Str.ofString "Worth") 321 }, { hash := PyData.keyHash P (Str.ofString "__firstlineno__"), key := Value.str (Str.ofString "__firstlineno__") 324, val := Value.int 33 323 }, { hash := PyData.keyHash P (Str.ofString "__init__"), key := Value.str (Str.ofString "__init__") 333, val := Value.ref 145 }, { hash := PyData.keyHash P (Str.ofString "__static_attributes__"), key := Value.str (Str.ofString "__static_attributes__") 336, val := Value.ref 146 }] 5 } : Obj) ::
  ({ cls := Value.type "tuple", data := Data.seq #[] } : Obj) ::
  ({ cls := Value.none, data := Data.fields #[Value.int 35 0, Value.int 4 0, Value.ref 144] } : Obj) ::
  ({ cls := Value.type "code", data := Data.fields #[Value.str (Str.ofString "Worth") 315, Value.str (Str.ofString "Worth") 316, Value.str (Str.ofString "/claim/cut.py") 317, Value.int 33 0, Value.int 0 0, Value.int 0 0, Value.int 0 0, Value.int 0 0, Value.ref 135, Value.bool false, Value.int 181 0, Value.ref 136, Value.none, Value.none, Value.none, Value.none, Value.int 318 0, Value.int 33 0, Value.str (Str.ofString "/claim/cut.py") 319] } : Obj) ::
  ({ cls := Value.type "frame", slots := #[some (Value.ref 137), some (Value.ref 3), some (Value.ref 134), none, some (Value.str (Str.ofString "keptseats.worth") 311), none, some (Value.ref 0)] } : Obj) ::
  ({ cls := Value.none, data := Data.fields #[] } : Obj) ::
  ({ cls := Value.none, data := Data.func { name := Str.ofString "__init__", qualname := Str.ofString "Worth.__init__", params := defArgs s_init_Worth, body := FuncBody.stmts (defBody s_init_Worth), scope := defScope s_init_Worth, globals := 0, closure := [], defaults := Value.none, kwdefaults := Value.none } } : Obj) ::
  ({ cls := Value.type "super", data := Data.fields #[Value.ref 148, Value.ref 148, Value.ref 148] } : Obj) ::
  ({ cls := Value.type "builtin_function_or_method", data := Data.fields #[Value.builtin "object.__init_subclass__", Value.ref 148] } : Obj) ::
  ({ cls := Value.none, data := Data.fields #[] } : Obj) ::
  ({ cls := Value.none, data := Data.func { name := Str.ofString "no_worth", qualname := Str.ofString "no_worth", params := defArgs s_no_worth, body := FuncBody.stmts (defBody s_no_worth), scope := defScope s_no_worth, globals := 0, closure := [], defaults := Value.none, kwdefaults := Value.none } } : Obj) ::
  ({ cls := Value.none, data := Data.fields #[] } : Obj) ::
  ({ cls := Value.none, data := Data.func { name := Str.ofString "common_divisor", qualname := Str.ofString "common_divisor", params := defArgs s_common_divisor, body := FuncBody.stmts (defBody s_common_divisor), scope := defScope s_common_divisor, globals := 0, closure := [], defaults := Value.none, kwdefaults := Value.none } } : Obj) ::
  ({ cls := Value.none, data := Data.fields #[] } : Obj) ::
  ({ cls := Value.none, data := Data.func { name := Str.ofString "lowest_terms", qualname := Str.ofString "lowest_terms", params := defArgs s_lowest_terms, body := FuncBody.stmts (defBody s_lowest_terms), scope := defScope s_lowest_terms, globals := 0, closure := [], defaults := Value.none, kwdefaults := Value.none } } : Obj) ::
  ({ cls := Value.none, data := Data.fields #[] } : Obj) ::
  ({ cls := Value.none, data := Data.func { name := Str.ofString "sold_of", qualname := Str.ofString "sold_of", params := defArgs s_sold_of, body := FuncBody.stmts (defBody s_sold_of), scope := defScope s_sold_of, globals := 0, closure := [], defaults := Value.none, kwdefaults := Value.none } } : Obj) ::
  ({ cls := Value.none, data := Data.fields #[] } : Obj) ::
  ({ cls := Value.none, data := Data.func { name := Str.ofString "best_sum", qualname := Str.ofString "best_sum", params := defArgs s_best_sum, body := FuncBody.stmts (defBody s_best_sum), scope := defScope s_best_sum, globals := 0, closure := [], defaults := Value.none, kwdefaults := Value.none } } : Obj) ::
  ({ cls := Value.none, data := Data.fields #[] } : Obj) ::
  ({ cls := Value.none, data := Data.func { name := Str.ofString "kept_sum", qualname := Str.ofString "kept_sum", params := defArgs s_kept_sum, body := FuncBody.stmts (defBody s_kept_sum), scope := defScope s_kept_sum, globals := 0, closure := [], defaults := Value.none, kwdefaults := Value.none } } : Obj) ::
  ({ cls := Value.none, data := Data.fields #[] } : Obj) ::
  ({ cls := Value.none, data := Data.func { name := Str.ofString "best_worths", qualname := Str.ofString "best_worths", params := defArgs s_best_worths, body := FuncBody.stmts (defBody s_best_worths), scope := defScope s_best_worths, globals := 0, closure := [], defaults := Value.none, kwdefaults := Value.none } } : Obj) ::
  ({ cls := Value.none, data := Data.fields #[] } : Obj) ::
  ({ cls := Value.none, data := Data.func { name := Str.ofString "kept_worth", qualname := Str.ofString "kept_worth", params := defArgs s_kept_worth, body := FuncBody.stmts (defBody s_kept_worth), scope := defScope s_kept_worth, globals := 0, closure := [], defaults := Value.none, kwdefaults := Value.none } } : Obj) ::
  ({ cls := Value.none, data := Data.fields #[] } : Obj) ::
  ({ cls := Value.none, data := Data.func { name := Str.ofString "protection", qualname := Str.ofString "protection", params := defArgs s_protection, body := FuncBody.stmts (defBody s_protection), scope := defScope s_protection, globals := 0, closure := [], defaults := Value.none, kwdefaults := Value.none } } : Obj) ::
  ({ cls := Value.none, data := Data.fields #[] } : Obj) ::
  ({ cls := Value.none, data := Data.func { name := Str.ofString "best_kept", qualname := Str.ofString "best_kept", params := defArgs s_best_kept, body := FuncBody.stmts (defBody s_best_kept), scope := defScope s_best_kept, globals := 0, closure := [], defaults := Value.none, kwdefaults := Value.none } } : Obj) ::
  ({ cls := Value.none, data := Data.fields #[] } : Obj) ::
  ({ cls := Value.none, data := Data.func { name := Str.ofString "period_sum", qualname := Str.ofString "period_sum", params := defArgs s_period_sum, body := FuncBody.stmts (defBody s_period_sum), scope := defScope s_period_sum, globals := 0, closure := [], defaults := Value.none, kwdefaults := Value.none } } : Obj) ::
  ({ cls := Value.none, data := Data.fields #[] } : Obj) ::
  ({ cls := Value.none, data := Data.func { name := Str.ofString "period_worth", qualname := Str.ofString "period_worth", params := defArgs s_period_worth, body := FuncBody.stmts (defBody s_period_worth), scope := defScope s_period_worth, globals := 0, closure := [], defaults := Value.none, kwdefaults := Value.none } } : Obj) ::
  ({ cls := Value.none, data := Data.fields #[] } : Obj) ::
  ({ cls := Value.none, data := Data.func { name := Str.ofString "span_worths", qualname := Str.ofString "span_worths", params := defArgs s_span_worths, body := FuncBody.stmts (defBody s_span_worths), scope := defScope s_span_worths, globals := 0, closure := [], defaults := Value.none, kwdefaults := Value.none } } : Obj) ::
  ({ cls := Value.none, data := Data.fields #[] } : Obj) ::
  ({ cls := Value.none, data := Data.func { name := Str.ofString "is_taken", qualname := Str.ofString "is_taken", params := defArgs s_is_taken, body := FuncBody.stmts (defBody s_is_taken), scope := defScope s_is_taken, globals := 0, closure := [], defaults := Value.none, kwdefaults := Value.none } } : Obj) ::
  ({ cls := Value.type "tuple", data := Data.seq #[] } : Obj) ::
  ({ cls := Value.type "builtin_function_or_method", data := Data.fields #[Value.builtin "type.__prepare__", Value.type "type"] } : Obj) ::
  ({ cls := Value.type "dict", data := Data.dict #[{ hash := PyData.keyHash P (Str.ofString "__module__"), key := Value.str (Str.ofString "__module__") 497, val := Value.str (Str.ofString "keptseats.plan") 476 }, { hash := PyData.keyHash P (Str.ofString "__qualname__"), key := Value.str (Str.ofString "__qualname__") 499, val := Value.str (Str.ofString "Plan") 498 }, { hash := PyData.keyHash P (Str.ofString "__firstlineno__"), key := Value.str (Str.ofString "__firstlineno__") 501, val := Value.int 113 500 }, { hash := PyData.keyHash P (Str.ofString "__init__"), key := Value.str (Str.ofString "__init__") 508, val := Value.ref 257 }, { hash := PyData.keyHash P (Str.ofString "__static_attributes__"), key := Value.str (Str.ofString "__static_attributes__") 513, val := Value.ref 258 }] 5 } : Obj) ::
  ({ cls := Value.type "tuple", data := Data.seq #[] } : Obj) ::
  ({ cls := Value.none, data := Data.fields #[Value.int 115 0, Value.int 4 0, Value.ref 256] } : Obj) ::
  ({ cls := Value.type "code", data := Data.fields #[Value.str (Str.ofString "Plan") 492, Value.str (Str.ofString "Plan") 493, Value.str (Str.ofString "/claim/cut.py") 494, Value.int 113 0, Value.int 0 0, Value.int 0 0, Value.int 0 0, Value.int 0 0, Value.ref 247, Value.bool false, Value.int 181 0, Value.ref 248, Value.none, Value.none, Value.none, Value.none, Value.int 495 0, Value.int 113 0, Value.str (Str.ofString "/claim/cut.py") 496] } : Obj) ::
  ({ cls := Value.type "frame", slots := #[some (Value.ref 249), some (Value.ref 3), some (Value.ref 246), none, some (Value.str (Str.ofString "keptseats.plan") 476), none, some (Value.ref 0)] } : Obj) ::
  ({ cls := Value.none, data := Data.fields #[] } : Obj) ::
  ({ cls := Value.none, data := Data.func { name := Str.ofString "__init__", qualname := Str.ofString "Plan.__init__", params := defArgs s_init_Plan, body := FuncBody.stmts (defBody s_init_Plan), scope := defScope s_init_Plan, globals := 0, closure := [], defaults := Value.none, kwdefaults := Value.none } } : Obj) ::
  ({ cls := Value.type "super", data := Data.fields #[Value.ref 260, Value.ref 260, Value.ref 260] } : Obj) ::
  ({ cls := Value.type "builtin_function_or_method", data := Data.fields #[Value.builtin "object.__init_subclass__", Value.ref 260] } : Obj) ::
  ({ cls := Value.none, data := Data.fields #[] } : Obj) ::
  ({ cls := Value.none, data := Data.func { name := Str.ofString "new", qualname := Str.ofString "new", params := defArgs s_new, body := FuncBody.stmts (defBody s_new), scope := defScope s_new, globals := 0, closure := [], defaults := Value.none, kwdefaults := Value.none } } : Obj) ::
  ({ cls := Value.none, data := Data.fields #[] } : Obj) ::
  ({ cls := Value.none, data := Data.func { name := Str.ofString "demand", qualname := Str.ofString "demand", params := defArgs s_demand, body := FuncBody.stmts (defBody s_demand), scope := defScope s_demand, globals := 0, closure := [], defaults := Value.none, kwdefaults := Value.none } } : Obj) ::
  ({ cls := Value.none, data := Data.fields #[] } : Obj) ::
  ({ cls := Value.none, data := Data.func { name := Str.ofString "observe", qualname := Str.ofString "observe", params := defArgs s_observe, body := FuncBody.stmts (defBody s_observe), scope := defScope s_observe, globals := 0, closure := [], defaults := Value.none, kwdefaults := Value.none } } : Obj) ::
  ({ cls := Value.none, data := Data.fields #[] } : Obj) ::
  ({ cls := Value.none, data := Data.func { name := Str.ofString "worth_to", qualname := Str.ofString "worth_to", params := defArgs s_worth_to, body := FuncBody.stmts (defBody s_worth_to), scope := defScope s_worth_to, globals := 0, closure := [], defaults := Value.none, kwdefaults := Value.none } } : Obj) ::
  ({ cls := Value.none, data := Data.fields #[] } : Obj) ::
  ({ cls := Value.none, data := Data.func { name := Str.ofString "value", qualname := Str.ofString "value", params := defArgs s_value, body := FuncBody.stmts (defBody s_value), scope := defScope s_value, globals := 0, closure := [], defaults := Value.none, kwdefaults := Value.none } } : Obj) ::
  ({ cls := Value.none, data := Data.fields #[] } : Obj) ::
  ({ cls := Value.none, data := Data.func { name := Str.ofString "marginal", qualname := Str.ofString "marginal", params := defArgs s_marginal, body := FuncBody.stmts (defBody s_marginal), scope := defScope s_marginal, globals := 0, closure := [], defaults := Value.none, kwdefaults := Value.none } } : Obj) ::
  ({ cls := Value.none, data := Data.fields #[] } : Obj) ::
  ({ cls := Value.none, data := Data.func { name := Str.ofString "protections", qualname := Str.ofString "protections", params := defArgs s_protections, body := FuncBody.stmts (defBody s_protections), scope := defScope s_protections, globals := 0, closure := [], defaults := Value.none, kwdefaults := Value.none } } : Obj) ::
  ({ cls := Value.none, data := Data.fields #[] } : Obj) ::
  ({ cls := Value.none, data := Data.func { name := Str.ofString "kept_from", qualname := Str.ofString "kept_from", params := defArgs s_kept_from, body := FuncBody.stmts (defBody s_kept_from), scope := defScope s_kept_from, globals := 0, closure := [], defaults := Value.none, kwdefaults := Value.none } } : Obj) ::
  ({ cls := Value.none, data := Data.fields #[] } : Obj) ::
  ({ cls := Value.none, data := Data.func { name := Str.ofString "decide", qualname := Str.ofString "decide", params := defArgs s_decide, body := FuncBody.stmts (defBody s_decide), scope := defScope s_decide, globals := 0, closure := [], defaults := Value.none, kwdefaults := Value.none } } : Obj) ::
  ({ cls := Value.none, data := Data.fields #[] } : Obj) ::
  ({ cls := Value.none, data := Data.func { name := Str.ofString "with_revenue", qualname := Str.ofString "with_revenue", params := defArgs s_with_revenue, body := FuncBody.stmts (defBody s_with_revenue), scope := defScope s_with_revenue, globals := 0, closure := [], defaults := Value.none, kwdefaults := Value.none } } : Obj) ::
  ({ cls := Value.none, data := Data.fields #[] } : Obj) ::
  ({ cls := Value.none, data := Data.func { name := Str.ofString "play", qualname := Str.ofString "play", params := defArgs s_play, body := FuncBody.stmts (defBody s_play), scope := defScope s_play, globals := 0, closure := [], defaults := Value.none, kwdefaults := Value.none } } : Obj) ::
  ({ cls := Value.none, data := Data.fields #[] } : Obj) ::
  ({ cls := Value.none, data := Data.func { name := Str.ofString "mean", qualname := Str.ofString "mean", params := defArgs s_mean, body := FuncBody.stmts (defBody s_mean), scope := defScope s_mean, globals := 0, closure := [], defaults := Value.none, kwdefaults := Value.none } } : Obj) ::
  ({ cls := Value.none, data := Data.fields #[] } : Obj) ::
  ({ cls := Value.none, data := Data.func { name := Str.ofString "known", qualname := Str.ofString "known", params := defArgs s_known, body := FuncBody.stmts (defBody s_known), scope := defScope s_known, globals := 0, closure := [], defaults := Value.none, kwdefaults := Value.none } } : Obj) ::
  ({ cls := Value.none, data := Data.fields #[] } : Obj) ::
  ({ cls := Value.none, data := Data.func { name := Str.ofString "meanknown", qualname := Str.ofString "meanknown", params := defArgs s_meanknown, body := FuncBody.stmts (defBody s_meanknown), scope := defScope s_meanknown, globals := 0, closure := [], defaults := Value.none, kwdefaults := Value.none } } : Obj) ::
  ({ cls := Value.none, data := Data.fields #[] } : Obj) ::
  ({ cls := Value.none, data := Data.func { name := Str.ofString "chance", qualname := Str.ofString "chance", params := defArgs s_chance, body := FuncBody.stmts (defBody s_chance), scope := defScope s_chance, globals := 0, closure := [], defaults := Value.none, kwdefaults := Value.none } } : Obj) ::
  ({ cls := Value.none, data := Data.fields #[] } : Obj) ::
  ({ cls := Value.none, data := Data.func { name := Str.ofString "asked", qualname := Str.ofString "asked", params := defArgs s_asked, body := FuncBody.stmts (defBody s_asked), scope := defScope s_asked, globals := 0, closure := [], defaults := Value.none, kwdefaults := Value.none } } : Obj) ::
  ({ cls := Value.none, data := Data.fields #[] } : Obj) ::
  ({ cls := Value.none, data := Data.func { name := Str.ofString "period", qualname := Str.ofString "period", params := defArgs s_period, body := FuncBody.stmts (defBody s_period), scope := defScope s_period, globals := 0, closure := [], defaults := Value.none, kwdefaults := Value.none } } : Obj) ::
  ({ cls := Value.none, data := Data.fields #[] } : Obj) ::
  ({ cls := Value.none, data := Data.func { name := Str.ofString "span_refused", qualname := Str.ofString "span_refused", params := defArgs s_span_refused, body := FuncBody.stmts (defBody s_span_refused), scope := defScope s_span_refused, globals := 0, closure := [], defaults := Value.none, kwdefaults := Value.none } } : Obj) ::
  ({ cls := Value.none, data := Data.fields #[] } : Obj) ::
  ({ cls := Value.none, data := Data.func { name := Str.ofString "span_worth", qualname := Str.ofString "span_worth", params := defArgs s_span_worth, body := FuncBody.stmts (defBody s_span_worth), scope := defScope s_span_worth, globals := 0, closure := [], defaults := Value.none, kwdefaults := Value.none } } : Obj) ::
  ({ cls := Value.none, data := Data.fields #[] } : Obj) ::
  ({ cls := Value.none, data := Data.func { name := Str.ofString "spanvalue", qualname := Str.ofString "spanvalue", params := defArgs s_spanvalue, body := FuncBody.stmts (defBody s_spanvalue), scope := defScope s_spanvalue, globals := 0, closure := [], defaults := Value.none, kwdefaults := Value.none } } : Obj) ::
  ({ cls := Value.none, data := Data.fields #[] } : Obj) ::
  ({ cls := Value.none, data := Data.func { name := Str.ofString "accept", qualname := Str.ofString "accept", params := defArgs s_accept, body := FuncBody.stmts (defBody s_accept), scope := defScope s_accept, globals := 0, closure := [], defaults := Value.none, kwdefaults := Value.none } } : Obj) ::
  ({ cls := Value.none, data := Data.fields #[] } : Obj) ::
  ({ cls := Value.none, data := Data.func { name := Str.ofString "requests", qualname := Str.ofString "requests", params := defArgs s_requests, body := FuncBody.stmts (defBody s_requests), scope := defScope s_requests, globals := 0, closure := [], defaults := Value.none, kwdefaults := Value.none } } : Obj) ::
  ({ cls := Value.none, data := Data.fields #[] } : Obj) ::
  ({ cls := Value.none, data := Data.func { name := Str.ofString "clear", qualname := Str.ofString "clear", params := defArgs s_clear, body := FuncBody.stmts (defBody s_clear), scope := defScope s_clear, globals := 0, closure := [], defaults := Value.none, kwdefaults := Value.none } } : Obj) ::
  ({ cls := Value.none, data := Data.fields #[] } : Obj) ::
  ({ cls := Value.none, data := Data.func { name := Str.ofString "shown", qualname := Str.ofString "shown", params := defArgs s_shown, body := FuncBody.stmts (defBody s_shown), scope := defScope s_shown, globals := 0, closure := [], defaults := Value.none, kwdefaults := Value.none } } : Obj) ::
  ({ cls := Value.none, data := Data.fields #[] } : Obj) ::
  ({ cls := Value.none, data := Data.func { name := Str.ofString "refused", qualname := Str.ofString "refused", params := defArgs s_refused, body := FuncBody.stmts (defBody s_refused), scope := defScope s_refused, globals := 0, closure := [], defaults := Value.none, kwdefaults := Value.none } } : Obj) ::
  ({ cls := Value.none, data := Data.fields #[] } : Obj) ::
  ({ cls := Value.none, data := Data.func { name := Str.ofString "answer", qualname := Str.ofString "answer", params := defArgs s_answer, body := FuncBody.stmts (defBody s_answer), scope := defScope s_answer, globals := 0, closure := [], defaults := Value.none, kwdefaults := Value.none } } : Obj) ::
  ({ cls := Value.none, data := Data.fields #[] } : Obj) ::
  ({ cls := Value.none, data := Data.func { name := Str.ofString "answers", qualname := Str.ofString "answers", params := defArgs s_answers, body := FuncBody.stmts (defBody s_answers), scope := defScope s_answers, globals := 0, closure := [], defaults := Value.none, kwdefaults := Value.none } } : Obj) :: []
noncomputable def HL (P : Params) : List Obj := zipBy pat ((KF P).map (·.2)) (RH P)
noncomputable def H1 (P : Params) : Heap := ⟨⟨HL P⟩, {}⟩
def mid3 (o : Obj) (m : Nat) (v : Value) : Obj := match o.data with
  | .dict ⟨e :: es⟩ _ => { o with data := .dict ⟨{ e with val := v } :: es.take (m - 1)⟩ m }
  | _ => o
def mid12 (o : Obj) (m : Nat) : Obj := match o.data with
  | .fields ⟨es⟩ => { o with data := .fields ⟨es.take m⟩ }
  | _ => o
noncomputable def midH (P : Params) (n m3 m12 : Nat) (v : Value) : Heap := ⟨⟨((HL P).take n).set 3 (mid3 ((HL P).getD 3 { cls := .none }) m3 v) |>.set 12 (mid12 ((HL P).getD 12 { cls := .none }) m12)⟩, {}⟩
def l0 : List Stmt := [top 0, top 1, top 2]
def l1 : List Stmt := [top 3, top 4, top 5, top 6, top 7, top 8, top 9, top 10, top 11, top 12]
def l2 : List Stmt := [top 13, top 14, top 15, top 16, top 17, top 18, top 19, top 20, top 21, top 22, top 23, top 24, top 25]
def l3 : List Stmt := [top 26, top 27, top 28, top 29, top 30, top 31, top 32, top 33, top 34]
def l4 : List Stmt := [top 35, top 36, top 37, top 38, top 39, top 40, top 41, top 42, top 43, top 44, top 45, top 46, top 47, top 48, top 49, top 50]
def l5 : List Stmt := [top 51, top 52, top 53, top 54]
abbrev bb : List Stmt := (l0 ++ (l1 ++ (l2 ++ (l3 ++ (l4 ++ (l5 ++ []))))))
def env : Env := { scope := pp.main.scope, locals := mainNs, globals := mainNs, cells := [], code := Value.ref 13, frame := some 14 }
abbrev cc : Code := .body bb env
abbrev ann : Option Value := some (Value.ref 6)
abbrev q0 : Pos := { line := 0, col := 0, endLine := 0, endCol := 0 }
theorem t_open : ∀ w : World, (fencedOpening treeTable pp w 2393).map (fun s => (s.heap, s.gens, s.drawn, s.toks)) = some (boot_heap w.params, Array.mk [], boot_drawn, boot_toks) := boot_open (by kernel_rfl) (by rfl) (fun _ => rfl)
theorem t_size : ∀ w : World, ((boot_heap w.params).isNs mainGlobals && (#[] : Array GenState).size == 0, (boot_heap w.params).objs.size, (boot_heap w.params).nsMap mainGlobals "__annotations__") = (true, 11, ann) := fun w => by kernel_rfl
theorem t_pre : ∀ (w : World) (os : OsState), topGo treeTable pp w 11 ann 12 (⟨boot_heap w.params, #[], boot_drawn, boot_toks, os⟩ : Shared) (topStub pp) = some ((⟨midH w.params 15 9 0 (Value.str (Str.ofString "__main__") 164), #[], {}, 187, os⟩ : Shared), ⟨denote treeTable cc, cc, ({ line := 0, col := 0, endLine := 0, endCol := 0 } : Pos), [topFrame q0]⟩) := fun w os => by kernel_rfl
theorem t_block : ∀ (w : World) (os : OsState), segRun treeTable pp w 11 ann 1 1 (⟨midH w.params 15 9 0 (Value.str (Str.ofString "__main__") 164), #[], {}, 187, os⟩ : Shared) (blockOf bb env cc ({ line := 0, col := 0, endLine := 0, endCol := 0 } : Pos) [topFrame q0]) = some (.next, (⟨midH w.params 15 9 0 (Value.str (Str.ofString "__main__") 164), #[], {}, 187, os⟩ : Shared), cc, ({ line := 0, col := 0, endLine := 0, endCol := 0 } : Pos)) := fun w os => by kernel_rfl
theorem t_0 : ∀ (w : World) (os : OsState), segRun treeTable pp w 11 ann 1 480 (⟨midH w.params 15 9 0 (Value.str (Str.ofString "__main__") 164), #[], {}, 187, os⟩ : Shared) (piecesOf l0 env cc ({ line := 0, col := 0, endLine := 0, endCol := 0 } : Pos) [topFrame q0]) = some (.next, (⟨midH w.params 120 11 3 (Value.str (Str.ofString "keptseats.forms") 187), #[], {}, 291, os⟩ : Shared), cc, ({ line := 3, col := 0, endLine := 9, endCol := 22 } : Pos)) := fun w os => by kernel_rfl
theorem t_1 : ∀ (w : World) (os : OsState), segRun treeTable pp w 11 ann 1 491 (⟨midH w.params 120 11 3 (Value.str (Str.ofString "keptseats.forms") 187), #[], {}, 291, os⟩ : Shared) (piecesOf l1 env cc ({ line := 3, col := 0, endLine := 9, endCol := 22 } : Pos) [topFrame q0]) = some (.next, (⟨midH w.params 195 20 30 (Value.str (Str.ofString "keptseats.worth") 311), #[], {}, 407, os⟩ : Shared), cc, ({ line := 59, col := 0, endLine := 64, endCol := 16 } : Pos)) := fun w os => by kernel_rfl
theorem t_2 : ∀ (w : World) (os : OsState), segRun treeTable pp w 11 ann 1 289 (⟨midH w.params 195 20 30 (Value.str (Str.ofString "keptseats.worth") 311), #[], {}, 407, os⟩ : Shared) (piecesOf l2 env cc ({ line := 59, col := 0, endLine := 64, endCol := 16 } : Pos) [topFrame q0]) = some (.next, (⟨midH w.params 244 31 54 (Value.str (Str.ofString "keptseats.plan") 476), #[], {}, 490, os⟩ : Shared), cc, ({ line := 112, col := 0, endLine := 112, endCol := 12 } : Pos)) := fun w os => by kernel_rfl
theorem t_3 : ∀ (w : World) (os : OsState), segRun treeTable pp w 11 ann 1 473 (⟨midH w.params 244 31 54 (Value.str (Str.ofString "keptseats.plan") 476), #[], {}, 490, os⟩ : Shared) (piecesOf l3 env cc ({ line := 112, col := 0, endLine := 112, endCol := 12 } : Pos) [topFrame q0]) = some (.next, (⟨midH w.params 319 40 81 (Value.str (Str.ofString "keptseats.plan") 476), #[], {}, 595, os⟩ : Shared), cc, ({ line := 161, col := 0, endLine := 162, endCol := 21 } : Pos)) := fun w os => by kernel_rfl
theorem t_4 : ∀ (w : World) (os : OsState), segRun treeTable pp w 11 ann 1 500 (⟨midH w.params 319 40 81 (Value.str (Str.ofString "keptseats.plan") 476), #[], {}, 595, os⟩ : Shared) (piecesOf l4 env cc ({ line := 161, col := 0, endLine := 162, endCol := 21 } : Pos) [topFrame q0]) = some (.next, (⟨midH w.params 423 56 129 (Value.str (Str.ofString "keptseats.plan") 476), #[], {}, 750, os⟩ : Shared), cc, ({ line := 269, col := 0, endLine := 270, endCol := 75 } : Pos)) := fun w os => by kernel_rfl
theorem t_5 : ∀ (w : World) (os : OsState), segRun treeTable pp w 11 ann 1 145 (⟨midH w.params 423 56 129 (Value.str (Str.ofString "keptseats.plan") 476), #[], {}, 750, os⟩ : Shared) (piecesOf l5 env cc ({ line := 269, col := 0, endLine := 270, endCol := 75 } : Pos) [topFrame q0]) = some (.next, (⟨H1 w.params, #[], {}, 781, os⟩ : Shared), cc, ({ line := 288, col := 0, endLine := 298, endCol := 19 } : Pos)) := fun w os => by kernel_rfl
theorem t_fin : ∀ (w : World) (os : OsState), topRun treeTable pp w 11 ann 2 (⟨H1 w.params, #[], {}, 781, os⟩ : Shared) ⟨doneF .next, cc, ({ line := 288, col := 0, endLine := 298, endCol := 19 } : Pos), [topFrame q0]⟩ = some (⟨H1 w.params, #[], {}, 781, os⟩ : Shared) := fun w os => by kernel_rfl
theorem t_run : ∀ (w : World) (os : OsState), topRun treeTable pp w 11 ann (12 + (1 + (480 + (491 + (289 + (473 + (500 + (145 + 2)))))))) (⟨boot_heap w.params, #[], boot_drawn, boot_toks, os⟩ : Shared) (topStub pp) = some (⟨H1 w.params, #[], {}, 781, os⟩ : Shared) := fun w os =>
  go_top (t_pre w os) (piece_block (t_block w os) (piece_app (t_0 w os) (piece_app (t_1 w os) (piece_app (t_2 w os) (piece_app (t_3 w os) (piece_app (t_4 w os) (piece_app (t_5 w os) (piece_nil (t_fin w os)))))))))
abbrev Xt : Shared → Bool := fun s => xlAt view [] s && recOk [] s
theorem t_l1 : ∀ (w : World) (os : OsState), (staticsOk (importedModules pp.main.body) (boot_heap w.params) (H1 w.params) && namesBound pp (H1 w.params) && gensDone (⟨H1 w.params, #[], {}, 781, os⟩ : Shared) && laidKept (boot_heap w.params) (H1 w.params)) = true := fun w os => by kernel_rfl
theorem t_l2 : ∀ (w : World) (os : OsState), openSeen view ["HANDLERS"] (importedModules pp.main.body) Xt true (⟨H1 w.params, #[], {}, 781, os⟩ : Shared) = openGood view ["HANDLERS"] := fun w os => by kernel_rfl
theorem t_l3 : ∀ (w : World) (os : OsState), Hook.obs (kHook KF KA KA_eq) (⟨H1 w.params, #[], {}, 781, os⟩ : Shared) = Hook.val (kHook KF KA KA_eq) w := fun w os => by kernel_rfl
theorem left : LeftO pp view ["HANDLERS"] Xt (Hook.obs (kHook KF KA KA_eq)) (Hook.val (kHook KF KA KA_eq)) 2393 :=
  LeftO.of_pieces t_open t_size t_run (by rfl) fun w => funext fun os => looks_pair (t_l1 w os) (looks_pair (t_l2 w os) (t_l3 w os))
end Ks
open PySem PySem.W PyProof.Rows
set_option maxRecDepth 100000 in
set_option maxHeartbeats 0 in
theorem PySem.Challenge.cw_keptseats_s01_answers_holds : PySem.Challenge.rw_keptseats_s01_answers.Holds := by
  w_on
  refine holds_os (q := Ks.view) (loose := ["HANDLERS"]) (Xt := fun s => xlAt Ks.view [] s && recOk [] s) (XP := XL Ks.view []) (Yf := Hook.obs (kHook Ks.KF Ks.KA Ks.KA_eq)) (Ya := Hook.val (kHook Ks.KF Ks.KA Ks.KA_eq)) (YP := Hook.says (kHook Ks.KF Ks.KA Ks.KA_eq)) (N := 2393) Ks.left (Hook.of (kHook Ks.KF Ks.KA Ks.KA_eq)) (Hook.keeps (kHook Ks.KF Ks.KA Ks.KA_eq))
    (fun s e => xl_of s (Bool.and_eq_true_iff.mp e).1) XL.keeps (by rfl) (by rfl) (by rfl) (fun s e => recFacts_of (Bool.and_eq_true_iff.mp e).2) os_shapes (by decide +kernel) (by decide +kernel) ⟨rfl, rfl, rfl, rfl, rfl, by decide +kernel⟩ ?hw ?hc
  (case hw => exact ⟨[.list [.int 5]], by decide +kernel, by decide +kernel⟩)
  k_fillS
  refine L2.walk_specK (r := PySem.Challenge.rw_keptseats_s01_answers) (k := 21) (CX := L2.CX0) (ps := ["calls"]) (sp := Ks.spAnswers) (by decide +kernel) rfl rfl ⟨rfl, by decide, by decide⟩ (fun w h Y => PySem.W.kIn_of Y) ?F ?S (fun _ _ _ _ z => z)
  case F =>
    intro w mg fa h Y KX G hmg
    have C_Call : ∃ C, Ks.ClIn (L2.KOf KX) mg "Call" "Call.__init__" Ks.s_init_Call ["self", "place", "numbers", "rows", "end"] C ∧ L2.Cls (L2.KOf KX) C ∧ L2.NoAttr (L2.KOf KX) C "place" ∧ L2.NoAttr (L2.KOf KX) C "numbers" ∧ L2.NoAttr (L2.KOf KX) C "rows" ∧ L2.NoAttr (L2.KOf KX) C "end" := by
      dsimp only [L2.KOf]
      refine' Ks.cl4_mk (Ks.clIn_mk KX G ?aC ?a ?i ?l ?c ?k ?mk ?kc ?pg ?hd ?po ?sa (fun _ _ _ _ _ _ us hl => match us, hl with | [_, _, _, _, _], _ => rfl)) ?n0 ?n1 ?n2 ?n3
      (case aC => k_is); (case a => k_is); (case i => k_is); (case l => k_is); (case c => k_is); (case k => k_is); (case mk => k_is); (case kc => k_is); (case pg => k_is); (case hd => k_is); (case po => k_is); (case sa => k_is)
      (case n0 => k_is); (case n1 => k_is); (case n2 => k_is); (case n3 => k_is)
    have C_Worth : ∃ C, Ks.ClIn (L2.KOf KX) mg "Worth" "Worth.__init__" Ks.s_init_Worth ["self", "above", "below"] C ∧ L2.Cls (L2.KOf KX) C ∧ L2.NoAttr (L2.KOf KX) C "above" ∧ L2.NoAttr (L2.KOf KX) C "below" := by
      dsimp only [L2.KOf]
      refine' Ks.cl2_mk (Ks.clIn_mk KX G ?aC ?a ?i ?l ?c ?k ?mk ?kc ?pg ?hd ?po ?sa (fun _ _ _ _ _ _ us hl => match us, hl with | [_, _, _], _ => rfl)) ?n0 ?n1
      (case aC => k_is); (case a => k_is); (case i => k_is); (case l => k_is); (case c => k_is); (case k => k_is); (case mk => k_is); (case kc => k_is); (case pg => k_is); (case hd => k_is); (case po => k_is); (case sa => k_is)
      (case n0 => k_is); (case n1 => k_is)
    have C_Plan : ∃ C, Ks.ClIn (L2.KOf KX) mg "Plan" "Plan.__init__" Ks.s_init_Plan ["self"] C ∧ L2.Cls (L2.KOf KX) C ∧ L2.NoAttr (L2.KOf KX) C "seats" ∧ L2.NoAttr (L2.KOf KX) C "fares" ∧ L2.NoAttr (L2.KOf KX) C "weights" ∧ L2.NoAttr (L2.KOf KX) C "periods" := by
      dsimp only [L2.KOf]
      refine' Ks.cl4_mk (Ks.clIn_mk KX G ?aC ?a ?i ?l ?c ?k ?mk ?kc ?pg ?hd ?po ?sa (fun _ _ _ _ _ _ us hl => match us, hl with | [_], _ => rfl)) ?n0 ?n1 ?n2 ?n3
      (case aC => k_is); (case a => k_is); (case i => k_is); (case l => k_is); (case c => k_is); (case k => k_is); (case mk => k_is); (case kc => k_is); (case pg => k_is); (case hd => k_is); (case po => k_is); (case sa => k_is)
      (case n0 => k_is); (case n1 => k_is); (case n2 => k_is); (case n3 => k_is)
    have F_read_call : L2.FnIn (L2.KOf KX) mg "read_call" Ks.s_read_call ["calls", "start"] := by
      dsimp only [L2.KOf]
      refine' Ks.fnIn_mk KX G ?a ?l ?c ?k (fun _ _ _ _ _ _ us hl => match us, hl with | [_, _], _ => rfl)
      (case a => k_is); (case l => k_is); (case c => k_is); (case k => k_is)
    have F_in_ranges : L2.FnIn (L2.KOf KX) mg "in_ranges" Ks.s_in_ranges ["call"] := by
      dsimp only [L2.KOf]
      refine' Ks.fnIn_mk KX G ?a ?l ?c ?k (fun _ _ _ _ _ _ us hl => match us, hl with | [_], _ => rfl)
      (case a => k_is); (case l => k_is); (case c => k_is); (case k => k_is)
    have F_no_worth : L2.FnIn (L2.KOf KX) mg "no_worth" Ks.s_no_worth ["seats"] := by
      dsimp only [L2.KOf]
      refine' Ks.fnIn_mk KX G ?a ?l ?c ?k (fun _ _ _ _ _ _ us hl => match us, hl with | [_], _ => rfl)
      (case a => k_is); (case l => k_is); (case c => k_is); (case k => k_is)
    have F_common_divisor : L2.FnIn (L2.KOf KX) mg "common_divisor" Ks.s_common_divisor ["a", "b"] := by
      dsimp only [L2.KOf]
      refine' Ks.fnIn_mk KX G ?a ?l ?c ?k (fun _ _ _ _ _ _ us hl => match us, hl with | [_, _], _ => rfl)
      (case a => k_is); (case l => k_is); (case c => k_is); (case k => k_is)
    have F_lowest_terms : L2.FnIn (L2.KOf KX) mg "lowest_terms" Ks.s_lowest_terms ["above", "below"] := by
      dsimp only [L2.KOf]
      refine' Ks.fnIn_mk KX G ?a ?l ?c ?k (fun _ _ _ _ _ _ us hl => match us, hl with | [_, _], _ => rfl)
      (case a => k_is); (case l => k_is); (case c => k_is); (case k => k_is)
    have F_sold_of : L2.FnIn (L2.KOf KX) mg "sold_of" Ks.s_sold_of ["asked", "left", "kept"] := by
      dsimp only [L2.KOf]
      refine' Ks.fnIn_mk KX G ?a ?l ?c ?k (fun _ _ _ _ _ _ us hl => match us, hl with | [_, _, _], _ => rfl)
      (case a => k_is); (case l => k_is); (case c => k_is); (case k => k_is)
    have F_best_sum : L2.FnIn (L2.KOf KX) mg "best_sum" Ks.s_best_sum ["gain", "weights", "later", "x"] := by
      dsimp only [L2.KOf]
      refine' Ks.fnIn_mk KX G ?a ?l ?c ?k (fun _ _ _ _ _ _ us hl => match us, hl with | [_, _, _, _], _ => rfl)
      (case a => k_is); (case l => k_is); (case c => k_is); (case k => k_is)
    have F_kept_sum : L2.FnIn (L2.KOf KX) mg "kept_sum" Ks.s_kept_sum ["gain", "weights", "later", "x", "kept"] := by
      dsimp only [L2.KOf]
      refine' Ks.fnIn_mk KX G ?a ?l ?c ?k (fun _ _ _ _ _ _ us hl => match us, hl with | [_, _, _, _, _], _ => rfl)
      (case a => k_is); (case l => k_is); (case c => k_is); (case k => k_is)
    have F_best_worths : L2.FnIn (L2.KOf KX) mg "best_worths" Ks.s_best_worths ["fares", "weights", "seats"] := by
      dsimp only [L2.KOf]
      refine' Ks.fnIn_mk KX G ?a ?l ?c ?k (fun _ _ _ _ _ _ us hl => match us, hl with | [_, _, _], _ => rfl)
      (case a => k_is); (case l => k_is); (case c => k_is); (case k => k_is)
    have F_kept_worth : L2.FnIn (L2.KOf KX) mg "kept_worth" Ks.s_kept_worth ["fares", "weights", "seats", "kept"] := by
      dsimp only [L2.KOf]
      refine' Ks.fnIn_mk KX G ?a ?l ?c ?k (fun _ _ _ _ _ _ us hl => match us, hl with | [_, _, _, _], _ => rfl)
      (case a => k_is); (case l => k_is); (case c => k_is); (case k => k_is)
    have F_protection : L2.FnIn (L2.KOf KX) mg "protection" Ks.s_protection ["worth", "fare"] := by
      dsimp only [L2.KOf]
      refine' Ks.fnIn_mk KX G ?a ?l ?c ?k (fun _ _ _ _ _ _ us hl => match us, hl with | [_, _], _ => rfl)
      (case a => k_is); (case l => k_is); (case c => k_is); (case k => k_is)
    have F_best_kept : L2.FnIn (L2.KOf KX) mg "best_kept" Ks.s_best_kept ["fares", "weights", "seats"] := by
      dsimp only [L2.KOf]
      refine' Ks.fnIn_mk KX G ?a ?l ?c ?k (fun _ _ _ _ _ _ us hl => match us, hl with | [_, _, _], _ => rfl)
      (case a => k_is); (case l => k_is); (case c => k_is); (case k => k_is)
    have F_period_sum : L2.FnIn (L2.KOf KX) mg "period_sum" Ks.s_period_sum ["gains", "weights", "later", "x"] := by
      dsimp only [L2.KOf]
      refine' Ks.fnIn_mk KX G ?a ?l ?c ?k (fun _ _ _ _ _ _ us hl => match us, hl with | [_, _, _, _], _ => rfl)
      (case a => k_is); (case l => k_is); (case c => k_is); (case k => k_is)
    have F_period_worth : L2.FnIn (L2.KOf KX) mg "period_worth" Ks.s_period_worth ["fares", "weights", "later"] := by
      dsimp only [L2.KOf]
      refine' Ks.fnIn_mk KX G ?a ?l ?c ?k (fun _ _ _ _ _ _ us hl => match us, hl with | [_, _, _], _ => rfl)
      (case a => k_is); (case l => k_is); (case c => k_is); (case k => k_is)
    have F_span_worths : L2.FnIn (L2.KOf KX) mg "span_worths" Ks.s_span_worths ["fares", "periods", "seats"] := by
      dsimp only [L2.KOf]
      refine' Ks.fnIn_mk KX G ?a ?l ?c ?k (fun _ _ _ _ _ _ us hl => match us, hl with | [_, _, _], _ => rfl)
      (case a => k_is); (case l => k_is); (case c => k_is); (case k => k_is)
    have F_is_taken : L2.FnIn (L2.KOf KX) mg "is_taken" Ks.s_is_taken ["fare", "later", "x"] := by
      dsimp only [L2.KOf]
      refine' Ks.fnIn_mk KX G ?a ?l ?c ?k (fun _ _ _ _ _ _ us hl => match us, hl with | [_, _, _], _ => rfl)
      (case a => k_is); (case l => k_is); (case c => k_is); (case k => k_is)
    have F_new : L2.FnIn (L2.KOf KX) mg "new" Ks.s_new ["plan", "numbers", "rows"] := by
      dsimp only [L2.KOf]
      refine' Ks.fnIn_mk KX G ?a ?l ?c ?k (fun _ _ _ _ _ _ us hl => match us, hl with | [_, _, _], _ => rfl)
      (case a => k_is); (case l => k_is); (case c => k_is); (case k => k_is)
    have F_demand : L2.FnIn (L2.KOf KX) mg "demand" Ks.s_demand ["plan", "numbers", "rows"] := by
      dsimp only [L2.KOf]
      refine' Ks.fnIn_mk KX G ?a ?l ?c ?k (fun _ _ _ _ _ _ us hl => match us, hl with | [_, _, _], _ => rfl)
      (case a => k_is); (case l => k_is); (case c => k_is); (case k => k_is)
    have F_observe : L2.FnIn (L2.KOf KX) mg "observe" Ks.s_observe ["plan", "numbers", "rows"] := by
      dsimp only [L2.KOf]
      refine' Ks.fnIn_mk KX G ?a ?l ?c ?k (fun _ _ _ _ _ _ us hl => match us, hl with | [_, _, _], _ => rfl)
      (case a => k_is); (case l => k_is); (case c => k_is); (case k => k_is)
    have F_worth_to : L2.FnIn (L2.KOf KX) mg "worth_to" Ks.s_worth_to ["plan", "i", "x"] := by
      dsimp only [L2.KOf]
      refine' Ks.fnIn_mk KX G ?a ?l ?c ?k (fun _ _ _ _ _ _ us hl => match us, hl with | [_, _, _], _ => rfl)
      (case a => k_is); (case l => k_is); (case c => k_is); (case k => k_is)
    have F_value : L2.FnIn (L2.KOf KX) mg "value" Ks.s_value ["plan", "numbers", "rows"] := by
      dsimp only [L2.KOf]
      refine' Ks.fnIn_mk KX G ?a ?l ?c ?k (fun _ _ _ _ _ _ us hl => match us, hl with | [_, _, _], _ => rfl)
      (case a => k_is); (case l => k_is); (case c => k_is); (case k => k_is)
    have F_marginal : L2.FnIn (L2.KOf KX) mg "marginal" Ks.s_marginal ["plan", "numbers", "rows"] := by
      dsimp only [L2.KOf]
      refine' Ks.fnIn_mk KX G ?a ?l ?c ?k (fun _ _ _ _ _ _ us hl => match us, hl with | [_, _, _], _ => rfl)
      (case a => k_is); (case l => k_is); (case c => k_is); (case k => k_is)
    have F_protections : L2.FnIn (L2.KOf KX) mg "protections" Ks.s_protections ["plan", "numbers", "rows"] := by
      dsimp only [L2.KOf]
      refine' Ks.fnIn_mk KX G ?a ?l ?c ?k (fun _ _ _ _ _ _ us hl => match us, hl with | [_, _, _], _ => rfl)
      (case a => k_is); (case l => k_is); (case c => k_is); (case k => k_is)
    have F_kept_from : L2.FnIn (L2.KOf KX) mg "kept_from" Ks.s_kept_from ["kept"] := by
      dsimp only [L2.KOf]
      refine' Ks.fnIn_mk KX G ?a ?l ?c ?k (fun _ _ _ _ _ _ us hl => match us, hl with | [_], _ => rfl)
      (case a => k_is); (case l => k_is); (case c => k_is); (case k => k_is)
    have F_decide : L2.FnIn (L2.KOf KX) mg "decide" Ks.s_decide ["plan", "numbers", "rows"] := by
      dsimp only [L2.KOf]
      refine' Ks.fnIn_mk KX G ?a ?l ?c ?k (fun _ _ _ _ _ _ us hl => match us, hl with | [_, _, _], _ => rfl)
      (case a => k_is); (case l => k_is); (case c => k_is); (case k => k_is)
    have F_with_revenue : L2.FnIn (L2.KOf KX) mg "with_revenue" Ks.s_with_revenue ["plan", "sold"] := by
      dsimp only [L2.KOf]
      refine' Ks.fnIn_mk KX G ?a ?l ?c ?k (fun _ _ _ _ _ _ us hl => match us, hl with | [_, _], _ => rfl)
      (case a => k_is); (case l => k_is); (case c => k_is); (case k => k_is)
    have F_play : L2.FnIn (L2.KOf KX) mg "play" Ks.s_play ["plan", "numbers", "rows"] := by
      dsimp only [L2.KOf]
      refine' Ks.fnIn_mk KX G ?a ?l ?c ?k (fun _ _ _ _ _ _ us hl => match us, hl with | [_, _, _], _ => rfl)
      (case a => k_is); (case l => k_is); (case c => k_is); (case k => k_is)
    have F_mean : L2.FnIn (L2.KOf KX) mg "mean" Ks.s_mean ["plan", "numbers", "rows"] := by
      dsimp only [L2.KOf]
      refine' Ks.fnIn_mk KX G ?a ?l ?c ?k (fun _ _ _ _ _ _ us hl => match us, hl with | [_, _, _], _ => rfl)
      (case a => k_is); (case l => k_is); (case c => k_is); (case k => k_is)
    have F_known : L2.FnIn (L2.KOf KX) mg "known" Ks.s_known ["plan", "numbers", "rows"] := by
      dsimp only [L2.KOf]
      refine' Ks.fnIn_mk KX G ?a ?l ?c ?k (fun _ _ _ _ _ _ us hl => match us, hl with | [_, _, _], _ => rfl)
      (case a => k_is); (case l => k_is); (case c => k_is); (case k => k_is)
    have F_meanknown : L2.FnIn (L2.KOf KX) mg "meanknown" Ks.s_meanknown ["plan", "numbers", "rows"] := by
      dsimp only [L2.KOf]
      refine' Ks.fnIn_mk KX G ?a ?l ?c ?k (fun _ _ _ _ _ _ us hl => match us, hl with | [_, _, _], _ => rfl)
      (case a => k_is); (case l => k_is); (case c => k_is); (case k => k_is)
    have F_chance : L2.FnIn (L2.KOf KX) mg "chance" Ks.s_chance ["plan", "numbers", "rows"] := by
      dsimp only [L2.KOf]
      refine' Ks.fnIn_mk KX G ?a ?l ?c ?k (fun _ _ _ _ _ _ us hl => match us, hl with | [_, _, _], _ => rfl)
      (case a => k_is); (case l => k_is); (case c => k_is); (case k => k_is)
    have F_asked : L2.FnIn (L2.KOf KX) mg "asked" Ks.s_asked ["plan", "numbers", "rows"] := by
      dsimp only [L2.KOf]
      refine' Ks.fnIn_mk KX G ?a ?l ?c ?k (fun _ _ _ _ _ _ us hl => match us, hl with | [_, _, _], _ => rfl)
      (case a => k_is); (case l => k_is); (case c => k_is); (case k => k_is)
    have F_period : L2.FnIn (L2.KOf KX) mg "period" Ks.s_period ["plan", "numbers", "rows"] := by
      dsimp only [L2.KOf]
      refine' Ks.fnIn_mk KX G ?a ?l ?c ?k (fun _ _ _ _ _ _ us hl => match us, hl with | [_, _, _], _ => rfl)
      (case a => k_is); (case l => k_is); (case c => k_is); (case k => k_is)
    have F_span_refused : L2.FnIn (L2.KOf KX) mg "span_refused" Ks.s_span_refused ["plan", "t", "x"] := by
      dsimp only [L2.KOf]
      refine' Ks.fnIn_mk KX G ?a ?l ?c ?k (fun _ _ _ _ _ _ us hl => match us, hl with | [_, _, _], _ => rfl)
      (case a => k_is); (case l => k_is); (case c => k_is); (case k => k_is)
    have F_span_worth : L2.FnIn (L2.KOf KX) mg "span_worth" Ks.s_span_worth ["plan", "t", "x"] := by
      dsimp only [L2.KOf]
      refine' Ks.fnIn_mk KX G ?a ?l ?c ?k (fun _ _ _ _ _ _ us hl => match us, hl with | [_, _, _], _ => rfl)
      (case a => k_is); (case l => k_is); (case c => k_is); (case k => k_is)
    have F_spanvalue : L2.FnIn (L2.KOf KX) mg "spanvalue" Ks.s_spanvalue ["plan", "numbers", "rows"] := by
      dsimp only [L2.KOf]
      refine' Ks.fnIn_mk KX G ?a ?l ?c ?k (fun _ _ _ _ _ _ us hl => match us, hl with | [_, _, _], _ => rfl)
      (case a => k_is); (case l => k_is); (case c => k_is); (case k => k_is)
    have F_accept : L2.FnIn (L2.KOf KX) mg "accept" Ks.s_accept ["plan", "numbers", "rows"] := by
      dsimp only [L2.KOf]
      refine' Ks.fnIn_mk KX G ?a ?l ?c ?k (fun _ _ _ _ _ _ us hl => match us, hl with | [_, _, _], _ => rfl)
      (case a => k_is); (case l => k_is); (case c => k_is); (case k => k_is)
    have F_requests : L2.FnIn (L2.KOf KX) mg "requests" Ks.s_requests ["plan", "numbers", "rows"] := by
      dsimp only [L2.KOf]
      refine' Ks.fnIn_mk KX G ?a ?l ?c ?k (fun _ _ _ _ _ _ us hl => match us, hl with | [_, _, _], _ => rfl)
      (case a => k_is); (case l => k_is); (case c => k_is); (case k => k_is)
    have F_clear : L2.FnIn (L2.KOf KX) mg "clear" Ks.s_clear ["plan", "numbers", "rows"] := by
      dsimp only [L2.KOf]
      refine' Ks.fnIn_mk KX G ?a ?l ?c ?k (fun _ _ _ _ _ _ us hl => match us, hl with | [_, _, _], _ => rfl)
      (case a => k_is); (case l => k_is); (case c => k_is); (case k => k_is)
    have F_shown : L2.FnIn (L2.KOf KX) mg "shown" Ks.s_shown ["plan", "numbers", "rows"] := by
      dsimp only [L2.KOf]
      refine' Ks.fnIn_mk KX G ?a ?l ?c ?k (fun _ _ _ _ _ _ us hl => match us, hl with | [_, _, _], _ => rfl)
      (case a => k_is); (case l => k_is); (case c => k_is); (case k => k_is)
    have F_refused : L2.FnIn (L2.KOf KX) mg "refused" Ks.s_refused ["plan", "call"] := by
      dsimp only [L2.KOf]
      refine' Ks.fnIn_mk KX G ?a ?l ?c ?k (fun _ _ _ _ _ _ us hl => match us, hl with | [_, _], _ => rfl)
      (case a => k_is); (case l => k_is); (case c => k_is); (case k => k_is)
    have F_answer : L2.FnIn (L2.KOf KX) mg "answer" Ks.s_answer ["plan", "call"] := by
      dsimp only [L2.KOf]
      refine' Ks.fnIn_mk KX G ?a ?l ?c ?k (fun _ _ _ _ _ _ us hl => match us, hl with | [_, _], _ => rfl)
      (case a => k_is); (case l => k_is); (case c => k_is); (case k => k_is)
    have F_answers : L2.FnIn (L2.KOf KX) mg "answers" Ks.s_answers ["calls"] := by
      dsimp only [L2.KOf]
      refine' Ks.fnIn_mk KX G ?a ?l ?c ?k (fun _ _ _ _ _ _ us hl => match us, hl with | [_], _ => rfl)
      (case a => k_is); (case l => k_is); (case c => k_is); (case k => k_is)
    have no_len : mg "len" = none := PySem.W.mg_none_of KX G (by k_is)
    have no_min : mg "min" = none := PySem.W.mg_none_of KX G (by k_is)
    have no_max : mg "max" = none := PySem.W.mg_none_of KX G (by k_is)
    have no_sum : mg "sum" = none := PySem.W.mg_none_of KX G (by k_is)
    have no_all : mg "all" = none := PySem.W.mg_none_of KX G (by k_is)
    have no_any : mg "any" = none := PySem.W.mg_none_of KX G (by k_is)
    have no_list : mg "list" = none := PySem.W.mg_none_of KX G (by k_is)
    have no_reversed : mg "reversed" = none := PySem.W.mg_none_of KX G (by k_is)
    have no_range : mg "range" = none := PySem.W.mg_none_of KX G (by k_is)
    have no_zip : mg "zip" = none := PySem.W.mg_none_of KX G (by k_is)
    have no_enumerate : mg "enumerate" = none := PySem.W.mg_none_of KX G (by k_is)
    have hForms : ∃ a, mg "FORMS" = some (.ref a) ∧ Ks.FormsAt (L2.KOf KX) a Ks.FORMS19 := by
      (try dsimp only [L2.KOf])
      refine' Ks.forms_mk KX G ?a ?b (by decide)
      (case a => k_is); (case b => kernel_rfl)
    have hNaming : ∃ a, mg "NAMING_A_CLASS" = some (.ref a) ∧ Ks.KT (L2.KOf KX) a (Ks.NL Ks.NAMING) := by
      (try dsimp only [L2.KOf])
      refine' Ks.nats_mk KX G ?a ?b (by decide)
      (case a => k_is); (case b => kernel_rfl)
    have hNew : ∃ t, mg "NEW" = some (.int 0 t) := by
      (try dsimp only [L2.KOf])
      refine' Ks.int_mk KX G ?a
      (case a => k_is)
    have hMost : ∃ t, mg "MOST_PERIODS" = some (.int 20 t) := by
      (try dsimp only [L2.KOf])
      refine' Ks.int_mk KX G ?a
      (case a => k_is)
    have hHand : ∃ (a : Addr) (hs : List Addr), mg "HANDLERS" = some (.ref a) ∧ Ks.KT (L2.KOf KX) a (hs.map L2.V.ref) ∧ ∀ (j : Nat) (y : Str) (f : Addr), Ks.NAMES[j]? = some y → mg y = some (.ref f) → hs[j]? = some f := by
      (try dsimp only [L2.KOf])
      refine' Ks.handlers_mk KX G ?a ?b (by decide)
      (case a => k_is); (case b => kernel_rfl)
    obtain ⟨CW, I_Worth, cW, w1, w2⟩ := C_Worth
    obtain ⟨CC, I_Call, cC, c1, c2, c3, c4⟩ := C_Call
    obtain ⟨CP, I_Plan, cP, p1, p2, p3, p4⟩ := C_Plan
    obtain ⟨FA, g_FORMS, hF⟩ := hForms
    obtain ⟨NA, g_NAMING, hN⟩ := hNaming
    obtain ⟨HA, hs, g_HANDLERS, hH, hJ⟩ := hHand
    have T : Ks.Txt (L2.KOf KX) mg CW CC CP := ⟨no_len, no_min, no_max, no_sum, no_all, no_any, no_list, no_reversed, no_range, no_zip, no_enumerate, cW, cC, cP, w1, w2, p1, p2, p3, p4, c1, c2, c3, c4⟩
    exact Ks.end_mk F_answers (fun _ _ _ _ _ _ us hl => match us, hl with | [_], _ => rfl) hmg fun base => Ks.chain T I_Worth I_Call I_Plan F_common_divisor F_lowest_terms F_sold_of F_best_sum F_kept_sum F_no_worth F_best_worths F_kept_worth F_protection F_best_kept F_worth_to F_value F_marginal F_protections F_kept_from F_decide F_with_revenue F_known F_play F_mean F_demand F_observe F_new F_period_sum F_period_worth F_is_taken F_span_worths F_span_refused F_span_worth F_meanknown F_chance F_asked F_period F_spanvalue F_accept F_requests F_clear F_shown F_in_ranges F_read_call F_refused F_answer F_answers g_FORMS hF hNew hMost g_NAMING hN g_HANDLERS hH hJ
  case S =>
    intro K H xs a hO hwi hask hx
    cases hx with
    | cons h1 h2 =>
      cases h2
      cases h1 with
      | lst hs ha =>
        have e := L2.ints_dw a.1 _ ha
        subst e
        have q : ((Codec.inLen 0 24000 a.1 && a.1.all (Codec.inInt (-1000000000000) 1000000000000)) && true) = true := hwi
        rw [Bool.and_eq_true, Bool.and_eq_true] at q
        exact ⟨_, a.1, rfl, hs, (Codec.inNat_iff.mp q.1.1).2, hask, fun H' p hp => .lst (L2.SqL.of hp) (L2.dw_ints _)⟩
