import PyProof.Rows.All
import Wide.All
import OpenK.AllK
import Wide.FinOn
import PyProof.EqAt
import PyProof.EqKinds
import PyProof.TupleCall
import KE.BitLaws
import PySem.Challenge.RW_nearfold_k22_flag_words
set_option Elab.async false
set_option linter.all false
set_option maxRecDepth 100000
namespace L2
open PySem PySem.Spec PyProof.Rows
abbrev Key := Sum Int Str
def keyIs : Key → Value → Bool
  | .inl k, v => Value.isInt k v
  | .inr x, v => Value.isStrOf x v
def keyH (w : World) : Key → Int
  | .inl k => hashInt k
  | .inr x => hashStr w x
theorem keyIs_shape : ∀ {k : Key} {v : Value}, keyIs k v = true → (∃ i t, k = Sum.inl i ∧ v = Value.int i t) ∨ (∃ x t, k = Sum.inr x ∧ v = Value.str x t)
  | .inl i, v, h => by
    obtain ⟨t, e⟩ := Value.isInt_shape (k := i) (v := v) h
    exact .inl ⟨i, t, rfl, e⟩
  | .inr x, v, h => by
    obtain ⟨t, e⟩ := Value.isStrOf_shape (x := x) (v := v) h
    exact .inr ⟨x, t, rfl, e⟩
theorem keyIs_int (i : Int) (t : Tok) : keyIs (.inl i) (.int i t) = true := by simp [keyIs, Value.isInt]
theorem keyIs_str (x : Str) (t : Tok) : keyIs (.inr x) (.str x t) = true := by simp [keyIs, Value.isStrOf]
theorem key_ll (a b : Int) : decide ((Sum.inl a : Key) = Sum.inl b) = (a == b) := by
  by_cases e : a = b
  · subst e; simp
  · have h : ¬ (Sum.inl a : Key) = Sum.inl b := fun q => e (Sum.inl.inj q)
    rw [decide_eq_false h]
    exact (beq_eq_false_iff_ne.mpr e).symm
theorem key_rr (a b : Str) : decide ((Sum.inr a : Key) = Sum.inr b) = decide (a = b) := by
  by_cases e : a = b
  · subst e; simp
  · have h : ¬ (Sum.inr a : Key) = Sum.inr b := fun q => e (Sum.inr.inj q)
    rw [decide_eq_false h, decide_eq_false e]
theorem key_lr (a : Int) (b : Str) : decide ((Sum.inl a : Key) = Sum.inr b) = false := decide_eq_false (fun q => nomatch q)
theorem key_rl (a : Str) (b : Int) : decide ((Sum.inr a : Key) = Sum.inl b) = false := decide_eq_false (fun q => nomatch q)
def mixKind (prog : Program) (w : World) : PySem.KeyKind prog w Key where
  is := keyIs
  hash := keyH w
  inj := fun v a b ha hb => by
    rcases keyIs_shape ha with ⟨i, t, rfl, rfl⟩ | ⟨x, t, rfl, rfl⟩
    · rcases keyIs_shape hb with ⟨j, u, rfl, e⟩ | ⟨y, u, rfl, e⟩
      · injection e with e1 _; rw [e1]
      · exact nomatch e
    · rcases keyIs_shape hb with ⟨j, u, rfl, e⟩ | ⟨y, u, rfl, e⟩
      · exact nomatch e
      · injection e with e1 _; rw [e1]
  byValue := fun k v h => by
    rcases keyIs_shape h with ⟨i, t, rfl, rfl⟩ | ⟨x, t, rfl, rfl⟩ <;> rfl
  pyHash := fun hv h => by
    rcases keyIs_shape hv with ⟨i, t, rfl, rfl⟩ | ⟨x, t, rfl, rfl⟩
    · exact wpAny_pyHash_int h
    · exact wpAny_pyHash_str h
  eqBool := fun hu hv h => by
    rcases keyIs_shape hu with ⟨i, t, rfl, rfl⟩ | ⟨x, t, rfl, rfl⟩
    · rcases keyIs_shape hv with ⟨j, u, rfl, rfl⟩ | ⟨y, u, rfl, rfl⟩
      · rw [key_ll] at h; exact wpAny_eqBool_int h
      · rw [key_lr] at h; exact SeqAt.EqAt.int_str i t y u _ _ _ _ h
    · rcases keyIs_shape hv with ⟨j, u, rfl, rfl⟩ | ⟨y, u, rfl, rfl⟩
      · rw [key_rl] at h; exact SeqAt.EqAt.str_int x t j u _ _ _ _ h
      · rw [key_rr] at h; exact wpAny_eqBool_str h
  «strs» := fun k x t v h => by
    rcases keyIs_shape h with ⟨i, u, rfl, e⟩ | ⟨y, u, rfl, e⟩
    · exact nomatch e
    · injection e with e1 _
      subst e1
      cases v <;> rfl
theorem mixKind_int (prog : Program) (w : World) (i : Int) (t : Tok) : (mixKind prog w).is (.inl i) (.int i t) = true := keyIs_int i t
theorem mixKind_str (prog : Program) (w : World) (x : Str) (t : Tok) : (mixKind prog w).is (.inr x) (.str x t) = true := keyIs_str x t
end L2
namespace L2
open PySem PySem.Spec PyProof.Rows
inductive V where
  | non | bl (b : Bool) | int (i : Int) | str (x : Str) | byt (b : Array UInt8) | flt (b : UInt64) | ref (a : Addr) | ty (n : String)
  deriving DecidableEq
def RelV : V → Value → Prop
  | .non, u => u = Value.none
  | .bl b, u => u = Value.bool b
  | .int i, u => ∃ t, u = Value.int i t
  | .str x, u => ∃ t, u = Value.str x t
  | .byt b, u => ∃ t, u = Value.bytes b t
  | .flt b, u => ∃ t, u = Value.float b t
  | .ref a, u => u = Value.ref a
  | .ty n, u => u = Value.type n
abbrev Vals : List V → List Value → Prop := Paired RelV
theorem Vals.length {xs : List V} {us : List Value} (r : Vals xs us) : xs.length = us.length := Paired.length r
theorem Vals.get : ∀ {xs : List V} {us : List Value} {i : Nat} {x : V}, Vals xs us → xs[i]? = some x → ∃ u, us[i]? = some u ∧ RelV x u
  | _, _, _, _, .nil, e => by simp at e
  | _, _, 0, _, .cons r _, e => by simp at e; subst e; exact ⟨_, rfl, r⟩
  | _, _, i + 1, x, .cons _ t, e => by
    obtain ⟨u, h1, h2⟩ := Vals.get (i := i) (x := x) t (by simpa using e)
    exact ⟨u, by simpa using h1, h2⟩
theorem Vals.set {x : V} {u : Value} (r : RelV x u) : ∀ {xs : List V} {us : List Value} (i : Nat), Vals xs us → Vals (xs.set i x) (us.set i u)
  | _, _, _, .nil => .nil
  | _, _, 0, .cons _ t => .cons r t
  | _, _, i + 1, .cons q t => .cons q (Vals.set r i t)
theorem Vals.append : ∀ {xs ys : List V} {us ws : List Value}, Vals xs us → Vals ys ws → Vals (xs ++ ys) (us ++ ws)
  | _, _, _, _, .nil, s => s
  | _, _, _, _, .cons r t, s => .cons r (Vals.append t s)
theorem Vals.take : ∀ {xs : List V} {us : List Value} (n : Nat), Vals xs us → Vals (xs.take n) (us.take n)
  | _, _, 0, _ => .nil
  | _, _, _ + 1, .nil => .nil
  | _, _, n + 1, .cons r t => .cons r (Vals.take n t)
theorem Vals.drop : ∀ {xs : List V} {us : List Value} (n : Nat), Vals xs us → Vals (xs.drop n) (us.drop n)
  | _, _, 0, r => r
  | _, _, _ + 1, .nil => .nil
  | _, _, n + 1, .cons _ t => Vals.drop n t
theorem Vals.none_of : ∀ {xs : List V} {us : List Value} {i : Nat}, Vals xs us → xs[i]? = none → us[i]? = none := fun {xs us i} r e => by
  have h1 := r.length
  have h2 : xs.length ≤ i := List.getElem?_eq_none_iff.mp e
  exact List.getElem?_eq_none_iff.mpr (by omega)
def RelO : Option V → Option Value → Prop
  | some v, some u => RelV v u
  | none, none => True
  | _, _ => False
def KV {κ : Type} : List (κ × V) → List (κ × Value) → Prop := Paired fun (p : κ × V) (q : κ × Value) => p.1 = q.1 ∧ RelV p.2 q.2
def kV : Key → V
  | .inl i => .int i
  | .inr x => .str x
inductive HO where
  /-- a list -/
  | lst (xs : List V)
  /-- a tuple (never changes) -/
  | tup (xs : List V)
  /-- a dict whose keys are ints and texts; one whose keys are tuples of ints and texts (the empty one is both) -/
  | dK (kvs : List (Key × V)) | dT (kvs : List (List Key × V))
  /-- a set of ints: its members, its size -/
  | set (S : Int → Bool) (n : Nat)
  /-- an instance of the class at C, its dict at dx, its attributes -/
  | ins (C dx : Addr) (fs : List (Str × V))
  /-- the dict of the instance at x -/
  | own (x : Addr)
  /-- the dict of an exception -/
  | xd (fs : List (Str × V))
  /-- a bound method, f of x -/
  | met (f x : Addr)
  /-- a range object lo, lo + 1, .. below hi -/
  | rng (lo hi : Int)
  /-- a thing that is known to the object (the script; a dict while a loop walks it): read, never written while it is so -/
  | frz (o : Obj) (u : HO)
  /-- a code object's table -/
  | tbl (ps : Array Value)
  /-- any other thing, by what is true of its one object (a def of one's own: SetO a S n := HO.ext fun h => ..) -/
  | ext (φ : Heap → Prop)
abbrev Hp := Addr → Option HO
def upd (H : Hp) (a : Addr) (o : HO) : Hp := fun b => if b = a then some o else H b
theorem upd_same {H : Hp} {a : Addr} {o : HO} : upd H a o a = some o := by unfold upd; rw [if_pos rfl]
theorem upd_ne {H : Hp} {a b : Addr} {o : HO} (h : b ≠ a) : upd H a o b = H b := by unfold upd; rw [if_neg h]
theorem upd_upd {H : Hp} {a : Addr} {o u : HO} : upd (upd H a o) a u = upd H a u := by
  funext b; unfold upd; split <;> rfl
theorem ne_of {H : Hp} {a b : Addr} {o u : HO} (h : H a = some o) (h' : H b = some u) (d : o ≠ u) : a ≠ b := by
  intro e; subst e; rw [h] at h'; exact d (Option.some.inj h')
theorem ne_of_none {H : Hp} {a b : Addr} {o : HO} (h : H a = some o) (h' : H b = none) : a ≠ b := by
  intro e; subst e; rw [h] at h'; cases h'
section
variable (P : Program) (w : World)
def ObjOk (H : Hp) (h : Heap) (a : Addr) : HO → Prop
  | .lst xs => xs.length ≤ sizeLine ∧ ∃ (its : List Value) (n : Nat), Vals xs its ∧ h.get? a = some { cls := .type "list", data := .seq its.toArray n }
  | .tup xs => xs.length ≤ sizeLine ∧ ∃ its : List Value, Vals xs its ∧ IsTup h a its.toArray
  | .dK kvs => kvs.length ≤ sizeLine ∧ (a == sysModules) = false ∧ ∃ vs, KV kvs vs ∧ h.DictOf (mixKind P w) a vs
  | .dT kvs => kvs.length ≤ sizeLine ∧ (a == sysModules) = false ∧ ∃ xs : List (List Key × Addr × Value),
      Paired (fun (p : List Key × V) (q : List Key × Addr × Value) => p.1 = q.1 ∧ H q.2.1 = some (.tup (p.1.map kV)) ∧ RelV p.2 q.2.2) kvs xs ∧
      ∃ o es ep, h.get? a = some o ∧ o.ExactDict ∧ o.data = .dict es ep ∧ es.toList = xs.map (entryOfKey (tupleKind (mixKind P w))) ∧ (xs.map (·.1)).Nodup
  | .set S n => h.SetOf (intKind P w) a S n
  | .ins C dx fs => H dx = some (.own a) ∧ fs.length ≤ 1000 ∧ dx ≠ a ∧ h.get? a = some (PySem.W.instObj C dx) ∧
      ∃ mA, h.Ns1 dx mA ∧ (∀ f, RelO (fs.lookup f) (mA f)) ∧ PySem.Within mA (fs.map (·.1))
  | .own _ => ∃ o, h.get? a = some o
  | .xd fs => ∃ mA, h.Ns1 a mA ∧ ∀ f, RelO (fs.lookup f) (mA f)
  | .rng lo hi => ∃ t u v, h.get? a = some { cls := .type "range", data := .fields #[.int lo t, .int hi u, .int 1 v] }
  | .frz o u => h.get? a = some o ∧ ObjOk H h a u
  | .tbl ps => h.get? a = some { cls := .none, data := .fields ps }
  | .met f x => h.get? a = some (PySem.W.methodObj (.ref f) (.ref x))
  | .ext φ => φ h ∧ (∃ o, h.get? a = some o) ∧ ∀ h1 h2 : Heap, φ h1 → (∀ o, h1.get? a = some o → h2.get? a = some o) → φ h2
def HOk (H : Hp) (h : Heap) : Prop := ∀ a o, H a = some o → ObjOk P w H h a o
end
section
variable {P : Program} {w : World} {H H' : Hp} {h h' : Heap} {a : Addr} {o : HO}
theorem ObjOk.lt (x : ObjOk P w H h a o) : a < h.objs.size := by
  cases o with
  | lst xs => obtain ⟨_, _, _, _, e⟩ := x; exact Heap.lt_size e
  | tup xs => obtain ⟨_, _, _, p⟩ := x; exact p.lt
  | dK kvs => obtain ⟨_, _, _, _, o, _, _, e, _⟩ := x; exact Heap.lt_size e
  | dT kvs => obtain ⟨_, _, _, _, o, _, _, e, _⟩ := x; exact Heap.lt_size e
  | set S n => obtain ⟨o, _, _, _, e, _⟩ := x; exact Heap.lt_size e
  | ins C dx fs => obtain ⟨_, _, _, e, _⟩ := x; exact Heap.lt_size e
  | own y => obtain ⟨_, e⟩ := x; exact Heap.lt_size e
  | xd fs => obtain ⟨_, ⟨_, _, _, e, _⟩, _⟩ := x; exact Heap.lt_size e
  | rng lo hi => obtain ⟨_, _, _, e⟩ := x; exact Heap.lt_size e
  | frz ob u => obtain ⟨e, _⟩ := x; exact Heap.lt_size e
  | tbl ps => exact Heap.lt_size (show h.get? a = some _ from x)
  | met f y => exact Heap.lt_size (show h.get? a = some _ from x)
  | ext φ => obtain ⟨_, ⟨_, e⟩, _⟩ := x; exact Heap.lt_size e
theorem Paired.mapP {α β : Type} {F G : α → β → Prop} : ∀ {l₁ : List α} {l₂ : List β}, Paired F l₁ l₂ → (∀ a b, F a b → G a b) → Paired G l₁ l₂
  | _, _, .nil, _ => .nil
  | _, _, .cons r t, f => .cons (f _ _ r) (Paired.mapP t f)
theorem ObjOk.stay (x : ObjOk P w H h a o) (k : ∀ b u, (b = a ∨ H b = some (.own a)) → h.get? b = some u → h'.get? b = some u)
    (ho : ∀ b, H b = some (.own a) → H' b = some (.own a)) (ht : ∀ b xs, H b = some (.tup xs) → H' b = some (.tup xs)) : ObjOk P w H' h' a o := by
  induction o with
  | lst xs => obtain ⟨z, its, n, r, e⟩ := x; exact ⟨z, its, n, r, k _ _ (.inl rfl) e⟩
  | tup xs => obtain ⟨z, its, r, ob, e, c⟩ := x; exact ⟨z, its, r, ob, k _ _ (.inl rfl) e, c⟩
  | dK kvs => obtain ⟨z, y, vs, r, ob, es, ep, e, c⟩ := x; exact ⟨z, y, vs, r, ob, es, ep, k _ _ (.inl rfl) e, c⟩
  | dT kvs =>
    obtain ⟨z, y, xs, r, ob, es, ep, e, c⟩ := x
    exact ⟨z, y, xs, Paired.mapP r fun p q z => ⟨z.1, ht _ _ z.2.1, z.2.2⟩, ob, es, ep, k _ _ (.inl rfl) e, c⟩
  | set S n => obtain ⟨ob, es, ep, t, e, c⟩ := x; exact ⟨ob, es, ep, t, k _ _ (.inl rfl) e, c⟩
  | ins C dx fs =>
    obtain ⟨d, z, ne, e, mA, ⟨od, es, ep, e2, c⟩, r⟩ := x
    exact ⟨ho _ d, z, ne, k _ _ (.inl rfl) e, mA, ⟨od, es, ep, k _ _ (.inr d) e2, c⟩, r⟩
  | own y => obtain ⟨ob, e⟩ := x; exact ⟨ob, k _ _ (.inl rfl) e⟩
  | xd fs => obtain ⟨mA, ⟨od, es, ep, e, c⟩, r⟩ := x; exact ⟨mA, ⟨od, es, ep, k _ _ (.inl rfl) e, c⟩, r⟩
  | rng lo hi => obtain ⟨t, u, v, e⟩ := x; exact ⟨t, u, v, k _ _ (.inl rfl) e⟩
  | frz ob u ih => obtain ⟨e, q⟩ := x; exact ⟨k _ _ (.inl rfl) e, ih q⟩
  | tbl ps =>
    have e : h.get? a = some { cls := .none, data := .fields ps } := x
    show h'.get? a = some { cls := .none, data := .fields ps }
    exact k a _ (.inl rfl) e
  | met f y =>
    have e : h.get? a = some (PySem.W.methodObj (.ref f) (.ref y)) := x
    show h'.get? a = some (PySem.W.methodObj (.ref f) (.ref y))
    exact k a _ (.inl rfl) e
  | ext φ => obtain ⟨p, ⟨o, e⟩, st⟩ := x; exact ⟨st _ _ p fun o q => k _ _ (.inl rfl) q, ⟨o, k _ _ (.inl rfl) e⟩, st⟩
theorem HOk.lt (x : HOk P w H h) (e : H a = some o) : a < h.objs.size := (x a o e).lt
theorem HOk.fresh (x : HOk P w H h) (e : h.objs.size ≤ a) : H a = none := by
  cases q : H a with
  | none => rfl
  | some u => exact absurd (Nat.lt_of_lt_of_le (x.lt q) e) (Nat.lt_irrefl _)
theorem HOk.kept (x : HOk P w H h) (k : ∀ b u, h.get? b = some u → h'.get? b = some u) : HOk P w H h' := fun a o e =>
  (x a o e).stay (fun b u _ q => k b u q) (fun _ q => q) fun _ _ q => q
theorem HOk.laid (x : HOk P w H h) (k : ∀ b u, h.get? b = some u → h'.get? b = some u) (hp : h.objs.size ≤ a) (new : ObjOk P w (upd H a o) h' a o) : HOk P w (upd H a o) h' := fun b u e => by
  have hn := x.fresh hp
  by_cases hb : b = a
  · subst hb; rw [upd_same] at e; cases e; exact new
  · rw [upd_ne hb] at e
    exact (x b u e).stay (fun c v _ q => k c v q) (fun c q => by rw [upd_ne (ne_of_none q hn)]; exact q) fun c xs q => by rw [upd_ne (ne_of_none q hn)]; exact q
end
def Rd (H : Hp) (a : Addr) (u : HO) : Prop := H a = some u ∨ ∃ o, H a = some (.frz o u)
theorem Rd.of {H : Hp} {a : Addr} {u : HO} (h : H a = some u) : Rd H a u := .inl h
theorem Rd.ok {P : Program} {w : World} {H : Hp} {h : Heap} {a : Addr} {u : HO} (r : Rd H a u) (x : HOk P w H h) : ObjOk P w H h a u := by
  rcases r with r | ⟨o, r⟩
  · exact x a u r
  · obtain ⟨_, q⟩ := x a _ r
    exact q
def Mut : Option HO → Prop
  | some (.lst _) => True
  | some (.dK _) => True
  | some (.dT _) => True
  | some (.set _ _) => True
  | some (.ins _ _ _) => True
  | some (.ext _) => True
  | _ => False
section
variable {P : Program} {w : World} {H : Hp} {h h' : Heap} {x e : Addr} {o' : HO}
theorem HOk.write (ok : HOk P w H h) (mu : Mut (H x)) (he : e = x ∨ H e = some (.own x)) (k : ∀ b u, b ≠ e → h.get? b = some u → h'.get? b = some u) (heo : ∃ u, h'.get? e = some u)
    (new : ObjOk P w (upd H x o') h' x o') : HOk P w (upd H x o') h' := fun b u q => by
  have nown : ∀ c y, H c = some (.own y) → c ≠ x := fun c y r z => by subst z; rw [r] at mu; exact mu
  have ntup : ∀ c xs, H c = some (.tup xs) → c ≠ x := fun c xs r z => by subst z; rw [r] at mu; exact mu
  by_cases hb : b = x
  · subst hb; rw [upd_same] at q; cases q; exact new
  · rw [upd_ne hb] at q
    by_cases hbe : b = e
    · have q' : H b = some (.own x) := by
        rcases he with z | z
        · exact absurd (hbe.trans z) hb
        · rw [hbe]; exact z
      rw [q] at q'; cases q'
      obtain ⟨v, hv⟩ := heo
      exact ⟨v, by rw [hbe]; exact hv⟩
    · refine (ok b u q).stay (fun c v hc r => k c v ?_ r) (fun c r => by rw [upd_ne (nown c b r)]; exact r) fun c xs r => by rw [upd_ne (ntup c xs r)]; exact r
      rcases hc with rfl | hc
      · exact hbe
      · rintro rfl
        rcases he with z | z
        · exact nown c b hc z
        · rw [hc] at z; cases z; exact hb rfl
end
structure Un (fs ex : List Addr) (H H' : Hp) (h h' : Heap) : Prop where
  keep : ∀ b o, h.get? b = some o → H b = none → b ∉ fs → b ∉ ex → h'.get? b = some o
  slot : ∀ b o, h.get? b = some o → H b = none → b ∈ fs → b ∉ ex → ∃ sl, h'.get? b = some { o with slots := sl }
  free : ∀ b o, h.get? b = some o → H b = none → b ∉ ex → H' b = none
  there : ∀ b o, h.get? b = some o → b ∉ ex → ∃ o', h'.get? b = some o'
  tups : ∀ b xs, H b = some (.tup xs) → H' b = some (.tup xs)
  frzs : ∀ b o u, H b = some (.frz o u) → H' b = some (.frz o u)
  tbls : ∀ b ps, H b = some (.tbl ps) → ∃ more, H' b = some (.tbl (ps ++ more))
section
variable {fs fs' ex ex' : List Addr} {H H1 H2 : Hp} {h h1 h2 h' : Heap} {a x e : Addr} {o : HO}
theorem Un.any (u : Un fs ex H H1 h h1) {b : Addr} {ob : Obj} (q : h.get? b = some ob) (n : H b = none) (hx : b ∉ ex) : ∃ sl, h1.get? b = some { ob with slots := sl } := by
  by_cases hb : b ∈ fs
  · exact u.slot b ob q n hb hx
  · exact ⟨ob.slots, u.keep b ob q n hb hx⟩
theorem Un.trans (a : Un fs ex H H1 h h1) (b : Un fs ex H1 H2 h1 h2) : Un fs ex H H2 h h2 where
  keep := fun c ob q n hc hx => b.keep c ob (a.keep c ob q n hc hx) (a.free c ob q n hx) hc hx
  slot := fun c ob q n hc hx => by
    obtain ⟨sl, e1⟩ := a.slot c ob q n hc hx
    obtain ⟨sl', e2⟩ := b.slot c _ e1 (a.free c ob q n hx) hc hx
    exact ⟨sl', e2⟩
  free := fun c ob q n hx => by
    obtain ⟨o', e1⟩ := a.there c ob q hx
    exact b.free c o' e1 (a.free c ob q n hx) hx
  there := fun c ob q hx => by
    obtain ⟨o', e1⟩ := a.there c ob q hx
    exact b.there c o' e1 hx
  tups := fun c xs q => b.tups c xs (a.tups c xs q)
  frzs := fun c ob xs q => b.frzs c ob xs (a.frzs c ob xs q)
  tbls := fun c ps q => by
    obtain ⟨m1, e1⟩ := a.tbls c ps q
    obtain ⟨m2, e2⟩ := b.tbls c _ e1
    exact ⟨m1 ++ m2, by rw [e2, Array.append_assoc]⟩
theorem Un.kept (k : ∀ b u, h.get? b = some u → h'.get? b = some u) : Un fs ex H H h h' :=
  ⟨fun b ob q _ _ _ => k b ob q, fun b ob q _ _ _ => ⟨ob.slots, k b ob q⟩, fun _ _ _ n _ => n, fun b ob q _ => ⟨ob, k b ob q⟩, fun _ _ q => q, fun _ _ _ q => q, fun _ ps q => ⟨#[], by rw [q]; simp⟩⟩
theorem Un.refl : Un fs ex H H h h := Un.kept fun _ _ q => q
theorem Un.laid (k : ∀ b u, h.get? b = some u → h'.get? b = some u) (hp : h.objs.size ≤ a) (hn : H a = none) : Un fs ex H (upd H a o) h h' where
  keep := fun b u q _ _ _ => k b u q
  slot := fun b u q _ _ _ => ⟨u.slots, k b u q⟩
  free := fun b u q n _ => by rw [upd_ne (Nat.ne_of_lt (Nat.lt_of_lt_of_le (Heap.lt_size q) hp))]; exact n
  there := fun b u q _ => ⟨u, k b u q⟩
  tups := fun b xs q => by rw [upd_ne (ne_of_none q hn)]; exact q
  frzs := fun b u xs q => by rw [upd_ne (ne_of_none q hn)]; exact q
  tbls := fun b ps q => ⟨#[], by rw [upd_ne (ne_of_none q hn), q]; simp⟩
theorem Un.write (mu : Mut (H x)) (he : e = x ∨ H e = some (.own x)) (k : ∀ b u, b ≠ e → h.get? b = some u → h'.get? b = some u) (heo : ∃ u, h'.get? e = some u) : Un fs ex H (upd H x o) h h' := by
  have hx : ∀ b, H b = none → b ≠ x := fun b n z => by subst z; rw [n] at mu; exact mu
  have hb : ∀ b, H b = none → b ≠ e := fun b n z => by
    subst z
    rcases he with r | r
    · exact hx b n r
    · rw [n] at r; cases r
  have hm : ∀ b u, H b = some u → ¬ Mut (some u) → b ≠ x := fun b u q nm z => by subst z; rw [q] at mu; exact nm mu
  refine ⟨fun b u q n _ _ => k b u (hb b n) q, fun b u q n _ _ => ⟨u.slots, k b u (hb b n) q⟩, fun b u q n _ => by rw [upd_ne (hx b n)]; exact n, fun b u q _ => ?_,
    fun b xs q => by rw [upd_ne (hm b _ q fun z => z)]; exact q, fun b u xs q => by rw [upd_ne (hm b _ q fun z => z)]; exact q, fun b ps q => ⟨#[], by rw [upd_ne (hm b _ q fun z => z), q]; simp⟩⟩
  by_cases hbe : b = e
  · subst hbe; exact heo
  · exact ⟨u, k b u hbe q⟩
theorem Un.mono (u : Un fs ex H H1 h h1) (hs : ∀ b ∈ fs, b ∈ fs') (hx : ∀ b ∈ ex, b ∈ ex') : Un fs' ex' H H1 h h1 :=
  ⟨fun b ob q n hb he => u.keep b ob q n (fun z => hb (hs b z)) fun z => he (hx b z), fun _ _ q n _ he => u.any q n fun z => he (hx _ z), fun b ob q n he => u.free b ob q n fun z => he (hx b z), fun b ob q he => u.there b ob q fun z => he (hx b z), u.tups, u.frzs, u.tbls⟩
end
def trk (h : Heap) (H : Hp) : List Addr := (List.range h.objs.size).filter fun a => (H a).isSome
def hidT (h : Heap) (H : Hp) : Heap := PySem.W.hideAll h (trk h H)
theorem hidT_size (h : Heap) (H : Hp) : (hidT h H).objs.size = h.objs.size := PySem.W.hideAll_size _ _
theorem hidT_get {h : Heap} {H : Hp} {b : Addr} {o : Obj} (e : h.get? b = some o) (n : H b = none) : (hidT h H).get? b = some o :=
  PySem.W.hideAll_get _ e fun hm => by
    have q : (H b).isSome = true := (List.mem_filter.mp hm).2
    rw [n] at q; simp at q
theorem of_hidT {h : Heap} {H : Hp} {b : Addr} {o : Obj} (e : (hidT h H).get? b = some o) : h.get? b = some o ∧ H b = none := by
  have e' : h.get? b = some o := PySem.W.of_hideAll (trk h H) e
  refine ⟨e', ?_⟩
  cases q : H b with
  | none => rfl
  | some x =>
    have hm : b ∈ trk h H := List.mem_filter.mpr ⟨List.mem_range.mpr (Heap.lt_size e'), by simp [q]⟩
    have z : (hidT h H).get? b = none := PySem.W.hideAll_none (trk h H) hm
    rw [z] at e; cases e
def allNews (g h : Heap) (L : Addr) : List (Addr × Obj) := (List.range h.objs.size).filterMap fun a => if a = L ∨ (g.get? a).isSome = true then none else (h.get? a).map fun o => (a, o)
def rest (g h : Heap) (L d : Addr) : List (Addr × Obj) := (allNews g h L).filter fun p => decide (p.1 ≠ d)
end L2
namespace L2
open PySem PySem.Spec PyProof.Rows
structure Mod (K : PySem.W.Frag) (mg : Str → Option Value) (base : Heap) : Prop where
  kin : K.In base
  glob : base.Ns mainGlobals mg
  blt : ∃ mb, base.Ns builtinsNs mb ∧ ∀ x : Str, x ≠ "__name__" → mb x = bootBuiltins x
  nolimit : base.NoLimit
structure Cx where
  prog : Program
  w : World
  K : PySem.W.Frag
  mg : Str → Option Value
  base : Heap
  A : Around
  N : List Str
  s_0 : Shared
  H_0 : Hp
  env : Env
  outer : List Env
  stack : List Env
  ex : List Addr
  fn : Str → Bool
  calm : Bool
  pn : List (Addr × Obj)
  xe : Value → Shared → Prop
def frs (l : List Env) : List Addr := l.filterMap (·.frame)
abbrev Cx.fs (X : Cx) : List Addr := frs X.outer
def Vis (sc : Scope) (x : Str) : Prop := sc.names.lookup x = some .local ∨ sc.names.lookup x = some .cell ∨ sc.names.lookup x = some .free
def Loc (sc : Scope) (x : Str) : Prop := sc.names.lookup x = some .local ∨ sc.names.lookup x = some .cell
def Look (env : Env) (h : Heap) (m : Str → Option Value) (x : Str) (u : Value) : Prop :=
  (env.kindOf x = some .local ∧ m x = some u) ∨ ((env.kindOf x = some .cell ∨ env.kindOf x = some .free) ∧ ∃ c, env.cells.lookup x = some c ∧ h.IsCell c (some u))
structure Cx.Ok (X : Cx) : Prop where
  mod : Mod X.K X.mg X.base
  kind : X.env.scope.kind = .function
  glob : X.env.globals = mainGlobals
  blt : X.env.builtins = builtinsNs
  above : X.s_0.heap.objs.size ≤ X.env.locals
  inj : ∀ x y c, X.env.cells.lookup x = some c → X.env.cells.lookup y = some c → x = y
  has : ∀ x, (X.env.kindOf x = some .cell ∨ X.env.kindOf x = some .free) → ∃ c, X.env.cells.lookup x = some c
  cab : ∀ x c, X.fn x = true → X.env.cells.lookup x = some c → X.s_0.heap.objs.size ≤ c
  hd : X.calm = true → X.A.handled = none
  frames : X.A.frames = some X.stack
  stk : X.stack = X.outer ∨ (X.stack = X.env :: X.outer ∧ X.env.frame = some X.env.locals)
  exf : ∀ b ∈ X.ex, b ≠ X.env.locals ∧ ∀ x c, X.env.cells.lookup x = some c → c ≠ b
  bs : ∀ b o, X.base.get? b = some o → X.s_0.heap.get? b = some o ∧ X.H_0 b = none
  bsz : X.base.objs.size ≤ X.s_0.heap.objs.size
  noex : ∀ b o, X.base.get? b = some o → b ∉ X.ex
  exfs : ∀ b ∈ X.ex, b ∉ X.fs
  funs : X.s_0.heap.FunFrames X.base X.outer
  frf : ∀ b ∈ X.fs, X.H_0 b = none
structure GG (s s' : Shared) : Prop where
  drawn : s'.drawn = s.drawn
  size : s.gens.size ≤ s'.gens.size
  old : ∀ k, k < s.gens.size → s'.gens[k]? = s.gens[k]?
  new : ∀ k y, s.gens.size ≤ k → s'.gens[k]? = some y → y.bare = true
theorem GG.same {s s' : Shared} (hd : s'.drawn = s.drawn) (hg : s'.gens = s.gens) : GG s s' := ⟨hd, by rw [hg]; exact Nat.le_refl _, fun _ _ => by rw [hg], fun k y h e => by rw [hg, Array.getElem?_eq_none h] at e; cases e⟩
theorem GG.refl (s : Shared) : GG s s := .same rfl rfl
theorem GG.trans {a b c : Shared} (x : GG a b) (y : GG b c) : GG a c := ⟨y.drawn.trans x.drawn, Nat.le_trans x.size y.size, fun k h => (y.old k (Nat.lt_of_lt_of_le h x.size)).trans (x.old k h), fun k v h e => by
  rcases Nat.lt_or_ge k b.gens.size with q | q
  · rw [y.old k q] at e; exact x.new k v h e
  · exact y.new k v q e⟩
theorem GG.allBare {a b : Shared} (x : GG a b) (h : AllBare a.gens) : AllBare b.gens := fun y hy => by
  obtain ⟨k, hk, e⟩ := Array.mem_iff_getElem.mp hy
  have e' : b.gens[k]? = some y := by rw [Array.getElem?_eq_getElem hk, e]
  rcases Nat.lt_or_ge k a.gens.size with q | q
  · rw [x.old k q] at e'
    exact h y (Array.mem_of_getElem? e')
  · exact x.new k y q e'
structure Inv (X : Cx) (pins : List (Addr × Obj)) (σ : List (Option V)) (H : Hp) (s : Shared) : Prop where
  ok : X.Ok
  os : s.os = X.s_0.os
  bare : GG X.s_0 s
  base : Un X.fs X.ex X.H_0 H X.s_0.heap s.heap
  loc : ∃ m, s.heap.Ns X.env.locals m ∧ ∀ (i : Nat) (x : Str) (v : V), X.N[i]? = some x → σ[i]? = some (some v) → Vis X.env.scope x → ∃ u, RelV v u ∧ Look X.env s.heap m x u
  cell : ∀ x c, X.env.cells.lookup x = some c → ∃ v, s.heap.IsCell c v
  free : H X.env.locals = none
  freeC : ∀ x c, X.env.cells.lookup x = some c → H c = none
  pin : ∀ p ∈ X.pn ++ pins, s.heap.get? p.1 = some p.2 ∧ H p.1 = none ∧ p.1 ≠ X.env.locals ∧ p.1 ∉ X.fs ∧ ∀ v, p.2.data ≠ .cell v
  hok : HOk X.prog X.w H s.heap
  len : σ.length = X.N.length
section
variable {X : Cx} {pins : List (Addr × Obj)} {σ : List (Option V)} {H H' : Hp} {s : Shared} {h' : Heap}
theorem Cx.Ok.nofr (ok : X.Ok) {b : Addr} {o : Obj} (e : X.base.get? b = some o) : b ∉ X.fs := fun hb => by
  have := (ok.funs.mem hb).1
  rw [e] at this; cases this
theorem Inv.bs (I : Inv X pins σ H s) : ∀ b o, X.base.get? b = some o → s.heap.get? b = some o ∧ H b = none := fun b o e =>
  ⟨I.base.keep b o (I.ok.bs b o e).1 (I.ok.bs b o e).2 (I.ok.nofr e) (I.ok.noex b o e), I.base.free b o (I.ok.bs b o e).1 (I.ok.bs b o e).2 (I.ok.noex b o e)⟩
theorem Inv.bk (I : Inv X pins σ H s) : ∀ b o, X.base.get? b = some o → s.heap.get? b = some o := fun b o e => (I.bs b o e).1
theorem Inv.mod (I : Inv X pins σ H s) : Mod X.K X.mg X.base := I.ok.mod
theorem Inv.kIn (I : Inv X pins σ H s) : X.K.In s.heap := I.ok.mod.kin.keeps I.bk
theorem Inv.nolimit (I : Inv X pins σ H s) : s.heap.NoLimit := I.ok.mod.nolimit.keeps I.bk
theorem Inv.fr (I : Inv X pins σ H s) : ∃ m, Fr X.base X.env.locals s.heap m :=
  let ⟨m, hn, _⟩ := I.loc
  ⟨m, hn, I.bk, Nat.le_trans I.ok.bsz I.ok.above⟩
theorem Inv.lt (I : Inv X pins σ H s) : X.env.locals < s.heap.objs.size := let ⟨_, hn, _⟩ := I.loc; hn.lt
theorem Inv.sz (I : Inv X pins σ H s) : X.s_0.heap.objs.size ≤ s.heap.objs.size := Nat.le_trans I.ok.above (Nat.le_of_lt I.lt)
theorem Inv.nofs (I : Inv X pins σ H s) {a : Addr} (h : s.heap.objs.size ≤ a) : a ∉ X.fs := fun hb => by
  obtain ⟨_, o, ho, _⟩ := I.ok.funs.mem hb
  exact absurd (Nat.lt_of_lt_of_le (Heap.lt_size ho) (Nat.le_trans I.sz h)) (Nat.lt_irrefl _)
theorem Inv.cne (I : Inv X pins σ H s) : ∀ x c, X.env.cells.lookup x = some c → c ≠ X.env.locals := fun x c e z => by
  obtain ⟨v, o, ho, hd⟩ := I.cell x c e
  obtain ⟨m, ⟨o', es, ep, ho', hd', _⟩, _⟩ := I.loc
  rw [z, ho'] at ho; cases ho; rw [hd'] at hd; cases hd
theorem Inv.funs (I : Inv X pins σ H s) : s.heap.FunFrames X.base X.outer := by
  have all : ∀ (l : List Env), (∀ b ∈ frs l, b ∈ X.fs) → X.s_0.heap.FunFrames X.base l → s.heap.FunFrames X.base l := by
    intro l
    induction l with
    | nil => intro _ _; trivial
    | cons env r ih =>
      intro hs hl
      obtain ⟨hk, ⟨L, o, hf, hn, ho, hd⟩, hr⟩ := hl
      have hL : L ∈ X.fs := hs L (by unfold frs; rw [List.filterMap_cons, hf]; exact List.mem_cons_self)
      obtain ⟨sl, e⟩ := I.base.slot L o ho (I.ok.frf L hL) hL fun z => I.ok.exfs L z hL
      exact ⟨hk, ⟨L, _, hf, hn, e, hd⟩, ih (fun b hb => hs b (by unfold frs; rw [List.filterMap_cons, hf]; exact List.mem_cons_of_mem _ hb)) hr⟩
  exact all X.outer (fun _ hb => hb) I.ok.funs
theorem Inv.stack (I : Inv X pins σ H s) : s.heap.FunFrames X.base X.stack := by
  rcases I.ok.stk with e | ⟨e, hf⟩
  · rw [e]; exact I.funs
  · rw [e]
    obtain ⟨m, hn, _⟩ := I.loc
    refine .cons (by rw [I.ok.kind]; decide) hf hn ?_ I.funs
    exact Heap.get?_none_of_le (Nat.le_trans I.ok.bsz I.ok.above)
theorem Inv.stkSub (I : Inv X pins σ H s) : ∀ b ∈ frs X.stack, b ∈ X.env.locals :: X.fs := fun b hb => by
  rcases I.ok.stk with e | ⟨e, hf⟩
  · rw [e] at hb; exact List.mem_cons_of_mem _ hb
  · rw [e] at hb
    unfold frs at hb
    rw [List.filterMap_cons, hf] at hb
    exact hb
theorem Inv.stkFree (I : Inv X pins σ H s) : ∀ b ∈ frs X.stack, H b = none := fun b hb => by
  rcases List.mem_cons.mp (I.stkSub b hb) with e | hb
  · rw [e]; exact I.free
  · obtain ⟨_, o, ho, _⟩ := I.ok.funs.mem hb
    exact I.base.free b o ho (I.ok.frf b hb) fun z => I.ok.exfs b z hb
theorem Inv.step {g' : Array GenState} {t' : Nat} {d' : Drawn} {ch : List Addr} (I : Inv X pins σ H s)
    (hch : ∀ b ∈ ch, (b ∈ X.ex ∨ X.s_0.heap.objs.size ≤ b) ∧ b ≠ X.env.locals ∧ (∀ x c, X.env.cells.lookup x = some c → c ≠ b) ∧ ∀ p ∈ X.pn ++ pins, p.1 ≠ b)
    (keep : ∀ b o, b ≠ X.env.locals → b ∉ X.fs → b ∉ ch → s.heap.get? b = some o → H b = none → h'.get? b = some o)
    (slot : ∀ b o, b ≠ X.env.locals → b ∈ X.fs → b ∉ ch → s.heap.get? b = some o → H b = none → ∃ sl, h'.get? b = some { o with slots := sl }) (free : ∀ b o, b ∉ ch → s.heap.get? b = some o → H b = none → H' b = none)
    (there : ∀ b o, b ∉ ch → s.heap.get? b = some o → ∃ o', h'.get? b = some o')
    (tups : ∀ b xs, H b = some (.tup xs) → H' b = some (.tup xs)) (frzs : ∀ b o u, H b = some (.frz o u) → H' b = some (.frz o u)) (tbls : ∀ b ps, H b = some (.tbl ps) → ∃ more, H' b = some (.tbl (ps ++ more)))
    (ns : ∀ m, s.heap.Ns X.env.locals m → h'.Ns X.env.locals m) (hok : HOk X.prog X.w H' h') (hg : GG s { s with heap := h', gens := g', drawn := d', toks := t' }) :
    Inv X pins σ H' { s with heap := h', gens := g', drawn := d', toks := t' } := by
  have neL : ∀ b o, X.s_0.heap.get? b = some o → b ≠ X.env.locals := fun b o e => Nat.ne_of_lt (Nat.lt_of_lt_of_le (Heap.lt_size e) I.ok.above)
  have neC : ∀ b o, X.s_0.heap.get? b = some o → b ∉ X.ex → b ∉ ch := fun b o e hx hb => by
    rcases (hch b hb).1 with z | z
    · exact hx z
    · exact absurd (Nat.lt_of_lt_of_le (Heap.lt_size e) z) (Nat.lt_irrefl _)
  have cellK : ∀ x c, X.env.cells.lookup x = some c → ∀ v, s.heap.IsCell c v → h'.IsCell c v := fun x c e v ⟨o, ho, hd⟩ => by
    have nch : c ∉ ch := fun z => (hch c z).2.2.1 x c e rfl
    by_cases hc : c ∈ X.fs
    · obtain ⟨sl, q⟩ := slot c o (I.cne x c e) hc nch ho (I.freeC x c e)
      exact ⟨_, q, hd⟩
    · exact ⟨o, keep c o (I.cne x c e) hc nch ho (I.freeC x c e), hd⟩
  refine ⟨I.ok, I.os, I.bare.trans hg, ⟨fun b o e n hb hx => ?_, fun b o e n hb hx => ?_, fun b o e n hx => ?_, fun b o e hx => ?_, fun b xs e => tups b xs (I.base.tups b xs e), fun b o xs e => frzs b o xs (I.base.frzs b o xs e), fun b ps e => ?_⟩, ?_, fun x c e => ?_, ?_, fun x c e => ?_, fun p hp => ?_, hok, I.len⟩
  · exact keep b o (neL b o e) hb (neC b o e hx) (I.base.keep b o e n hb hx) (I.base.free b o e n hx)
  · obtain ⟨sl, e1⟩ := I.base.slot b o e n hb hx
    obtain ⟨sl', e2⟩ := slot b _ (neL b o e) hb (neC b o e hx) e1 (I.base.free b o e n hx)
    exact ⟨sl', e2⟩
  · obtain ⟨o', e1⟩ := I.base.there b o e hx
    exact free b o' (neC b o e hx) e1 (I.base.free b o e n hx)
  · obtain ⟨o', e1⟩ := I.base.there b o e hx
    exact there b o' (neC b o e hx) e1
  · obtain ⟨m1, e1⟩ := I.base.tbls b ps e
    obtain ⟨m2, e2⟩ := tbls b _ e1
    exact ⟨m1 ++ m2, by rw [e2, Array.append_assoc]⟩
  · obtain ⟨m, hn, hl⟩ := I.loc
    refine ⟨m, ns m hn, fun i x v e1 e2 e3 => ?_⟩
    obtain ⟨u, r, l⟩ := hl i x v e1 e2 e3
    refine ⟨u, r, ?_⟩
    rcases l with l | ⟨k, c, e, z⟩
    · exact .inl l
    · exact .inr ⟨k, c, e, cellK x c e _ z⟩
  · obtain ⟨v, z⟩ := I.cell x c e
    exact ⟨v, cellK x c e v z⟩
  · obtain ⟨m, ⟨o, _, _, ho, _⟩, _⟩ := I.loc
    exact free _ o (fun z => (hch _ z).2.1 rfl) ho I.free
  · obtain ⟨v, o, ho, hd⟩ := I.cell x c e
    exact free c o (fun z => (hch c z).2.2.1 x c e rfl) ho (I.freeC x c e)
  · obtain ⟨e, n, ne, nf, d⟩ := I.pin p hp
    have nch : p.1 ∉ ch := fun z => (hch p.1 z).2.2.2 p hp rfl
    exact ⟨keep p.1 p.2 ne nf nch e n, free p.1 p.2 nch e n, ne, nf, d⟩
theorem Inv.un {t' : Nat} (I : Inv X pins σ H s) (u : Un X.fs [] H H' s.heap h') (hok : HOk X.prog X.w H' h') : Inv X pins σ H' { s with heap := h', toks := t' } := by
  obtain ⟨m, ⟨o, es, ep, ho, r⟩, _⟩ := id I.loc
  obtain ⟨sl, hL⟩ := u.any ho I.free (by simp)
  exact I.step (g' := s.gens) (d' := s.drawn) (ch := []) (fun _ z => nomatch z) (fun b o _ hb _ e n => u.keep b o e n hb (by simp)) (fun b o _ hb _ e n => u.slot b o e n hb (by simp)) (fun b o _ e n => u.free b o e n (by simp)) (fun b o _ e => u.there b o e (by simp)) u.tups u.frzs u.tbls (fun m' hm => by
    obtain ⟨o', es', ep', ho', r'⟩ := hm
    rw [ho] at ho'; cases ho'
    exact ⟨_, es', ep', hL, r'⟩) hok (.same rfl rfl)
theorem Inv.call {g' : Array GenState} {t' : Nat} {d' : Drawn} {ch : List Addr} (I : Inv X pins σ H s) (u : Un (frs X.stack) ch H H' s.heap h') (hok : HOk X.prog X.w H' h') (hg : GG s { s with heap := h', gens := g', drawn := d', toks := t' })
    (hch : ∀ b ∈ ch, (b ∈ X.ex ∨ X.s_0.heap.objs.size ≤ b) ∧ b ≠ X.env.locals ∧ (∀ x c, X.env.cells.lookup x = some c → c ≠ b) ∧ ∀ p ∈ X.pn ++ pins, p.1 ≠ b) :
    Inv X pins σ H' { s with heap := h', gens := g', drawn := d', toks := t' } := by
  obtain ⟨m, ⟨o, es, ep, ho, r⟩, _⟩ := id I.loc
  obtain ⟨sl, hL⟩ := u.any ho I.free fun z => (hch _ z).2.1 rfl
  exact I.step (ch := ch) hch (fun b o hL hb hc e n => u.keep b o e n (fun z => (List.mem_cons.mp (I.stkSub b z)).elim hL hb) hc) (fun b o _ _ hc e n => u.any e n hc) (fun b o hc e n => u.free b o e n hc) (fun b o hc e => u.there b o e hc) u.tups u.frzs u.tbls (fun m' hm => by
    obtain ⟨o', es', ep', ho', r'⟩ := hm
    rw [ho] at ho'; cases ho'
    exact ⟨_, es', ep', hL, r'⟩) hok hg
theorem Inv.turned {t' : Nat} {it : Addr} (I : Inv X pins σ H s) (k : ∀ b o, b ≠ it → s.heap.get? b = some o → h'.get? b = some o) (hn : H it = none) (hL : it ≠ X.env.locals)
    (h1 : it ∈ X.ex ∨ X.s_0.heap.objs.size ≤ it) (h2 : ∀ x c, X.env.cells.lookup x = some c → c ≠ it) (h3 : ∀ p ∈ X.pn ++ pins, p.1 ≠ it) : Inv X pins σ H { s with heap := h', toks := t' } := by
  have nit : ∀ b u, H b = some u → b ≠ it := fun b u e z => by rw [z, hn] at e; cases e
  refine I.step (g' := s.gens) (d' := s.drawn) (ch := [it]) (fun b hb => ?_) (fun b o _ _ hc e _ => k b o (fun z => hc (by simp [z])) e) (fun b o _ _ hc e _ => ⟨o.slots, k b o (fun z => hc (by simp [z])) e⟩) (fun _ _ _ _ n => n)
    (fun b o hc e => ⟨o, k b o (fun z => hc (by simp [z])) e⟩) (fun _ _ e => e) (fun _ _ _ e => e) (fun b ps e => ⟨#[], by rw [e]; simp⟩) (fun m hm => ?_) (fun b u e => ?_) (.same rfl rfl)
  · have e : b = it := by simpa using hb
    subst e
    exact ⟨h1, hL, h2, h3⟩
  · obtain ⟨o, es, ep, ho, r⟩ := hm
    exact ⟨o, es, ep, k _ o (Ne.symm hL) ho, r⟩
  · refine (I.hok b u e).stay (fun c v hc q => k c v ?_ q) (fun _ q => q) fun _ _ q => q
    rcases hc with z | z
    · rw [z]; exact nit b u e
    · exact nit c _ z
theorem Inv.tok (I : Inv X pins σ H s) (t : Nat) : Inv X pins σ H { s with toks := t } := I.un (h' := s.heap) (t' := t) Un.refl I.hok
theorem Inv.kept {t' : Nat} (I : Inv X pins σ H s) (k : ∀ b u, s.heap.get? b = some u → h'.get? b = some u) : Inv X pins σ H { s with heap := h', toks := t' } := I.un (Un.kept k) (I.hok.kept k)
theorem Inv.laid {a : Addr} {o : HO} {t' : Nat} (I : Inv X pins σ H s) (k : ∀ b u, s.heap.get? b = some u → h'.get? b = some u) (hp : s.heap.objs.size ≤ a) (new : ObjOk X.prog X.w (upd H a o) h' a o) :
    Inv X pins σ (upd H a o) { s with heap := h', toks := t' } := I.un (Un.laid k hp (I.hok.fresh hp)) (I.hok.laid k hp new)
theorem Inv.write {x e : Addr} {o : HO} {t' : Nat} (I : Inv X pins σ H s) (mu : Mut (H x)) (he : e = x ∨ H e = some (.own x)) (k : ∀ b u, b ≠ e → s.heap.get? b = some u → h'.get? b = some u) (heo : ∃ u, h'.get? e = some u)
    (new : ObjOk X.prog X.w (upd H x o) h' x o) : Inv X pins σ (upd H x o) { s with heap := h', toks := t' } := I.un (Un.write mu he k heo) (I.hok.write mu he k heo new)
theorem Inv.weak {σ' : List (Option V)} (I : Inv X pins σ H s) (hl : σ'.length = σ.length) (w : ∀ (i : Nat) v, σ'[i]? = some (some v) → σ[i]? = some (some v)) : Inv X pins σ' H s :=
  ⟨I.ok, I.os, I.bare, I.base, let ⟨m, hn, hl'⟩ := I.loc; ⟨m, hn, fun i x v e1 e2 e3 => hl' i x v e1 (w i v e2) e3⟩, I.cell, I.free, I.freeC, I.pin, I.hok, hl.trans I.len⟩
theorem Inv.pins_of {pins' : List (Addr × Obj)} (I : Inv X pins σ H s) (h : ∀ p ∈ pins', s.heap.get? p.1 = some p.2 ∧ H p.1 = none ∧ p.1 ≠ X.env.locals ∧ p.1 ∉ X.fs ∧ ∀ v, p.2.data ≠ .cell v) : Inv X pins' σ H s :=
  ⟨I.ok, I.os, I.bare, I.base, I.loc, I.cell, I.free, I.freeC, fun p hp => (List.mem_append.mp hp).elim (fun z => I.pin p (List.mem_append_left _ z)) (h p), I.hok, I.len⟩
theorem nodup_ix {N : List Str} (hN : N.Nodup) {i j : Nat} {x : Str} (a : N[i]? = some x) (b : N[j]? = some x) : i = j := by
  obtain ⟨h1, e1⟩ := List.getElem?_eq_some_iff.mp a
  obtain ⟨h2, e2⟩ := List.getElem?_eq_some_iff.mp b
  exact (List.getElem_inj hN).mp (e1.trans e2.symm)
theorem store_ok2 {M : Model} {A : Around} {E : Value → Shared → Prop} {i : Nat} {x : Str} {v : V} {u : Value} {Q : Unit → Shared → Prop} (I : Inv X pins σ H s) (hN : X.N.Nodup) (hi : X.N[i]? = some x) (hx : Loc X.env.scope x) (r : RelV v u)
    (h : ∀ s', Inv X pins (σ.set i (some v)) H s' → (∃ a, Heap.SameBut a s.heap s'.heap ∧ (a = X.env.locals ∨ X.env.cells.lookup x = some a)) → Q () s') (hf : X.fn x = true ∨ X.env.scope.names.lookup x = some .local := by first | exact .inl rfl | exact .inr rfl | assumption) : wpAny M A (storeName X.env x u) Q E s := by
  obtain ⟨m, hn, hl⟩ := id I.loc
  have hcls : (X.env.scope.kind == .class || (X.env.scope.kind == .module && X.env.locals != X.env.globals)) = false := by rw [I.ok.kind]; rfl
  have hiσ : i < σ.length := by rw [I.len]; exact (List.getElem?_eq_some_iff.mp hi).1
  have cne := I.cne
  have tracked : ∀ {a : Addr} {h' : Heap}, (∃ o, s.heap.get? a = some o ∧ H a = none) → Heap.SameBut a s.heap h' → HOk X.prog X.w H h' := fun {a h'} ha hs b ob e => by
    obtain ⟨_, _, hfree⟩ := ha
    refine (I.hok b ob e).stay (fun c w' hc q => (hs.2 c ?_).trans q) (fun _ q => q) fun _ _ q => q
    rintro rfl
    rcases hc with rfl | hc
    · rw [hfree] at e; cases e
    · rw [hfree] at hc; cases hc
  rcases hx with hk | hk
  · refine wpAny_storeName_local hk hn (fun h' hn' hs => ?_) hcls
    obtain ⟨oL, _, _, hoL, _⟩ := id hn
    refine h _ ⟨I.ok, I.os, I.bare.trans (.same rfl rfl), ⟨fun b o e n hb hx => ?_, fun b o e n hb hx => ?_, I.base.free, fun b o e hx => ?_, I.base.tups, I.base.frzs, I.base.tbls⟩, ⟨_, hn', fun j y v' e1 e2 e3 => ?_⟩, fun y c e => ?_, I.free, I.freeC, fun p hp => ?_, tracked ⟨oL, hoL, I.free⟩ hs, by simpa using I.len⟩ ⟨_, hs, .inl rfl⟩
    · exact (hs.2 b (Nat.ne_of_lt (Nat.lt_of_lt_of_le (Heap.lt_size e) I.ok.above))).trans (I.base.keep b o e n hb hx)
    · obtain ⟨sl, e1⟩ := I.base.slot b o e n hb hx
      exact ⟨sl, (hs.2 b (Nat.ne_of_lt (Nat.lt_of_lt_of_le (Heap.lt_size e) I.ok.above))).trans e1⟩
    · obtain ⟨o', e1⟩ := I.base.there b o e hx
      exact ⟨o', (hs.2 b (Nat.ne_of_lt (Nat.lt_of_lt_of_le (Heap.lt_size e) I.ok.above))).trans e1⟩
    · by_cases hj : j = i
      · subst hj
        rw [hi] at e1; cases e1
        rw [List.getElem?_set_self hiσ] at e2
        cases e2
        exact ⟨u, r, .inl ⟨hk, by simp⟩⟩
      · rw [List.getElem?_set_ne (Ne.symm hj)] at e2
        obtain ⟨u', r', q⟩ := hl j y v' e1 e2 e3
        refine ⟨u', r', ?_⟩
        rcases q with ⟨k, e⟩ | ⟨k, c, e, z⟩
        · refine .inl ⟨k, ?_⟩
          have : y ≠ x := fun e => hj (nodup_ix hN e1 (e ▸ hi))
          simp [this, e]
        · exact .inr ⟨k, c, e, z.sameBut hs (cne y c e)⟩
    · obtain ⟨w', z⟩ := I.cell y c e
      exact ⟨w', z.sameBut hs (cne y c e)⟩
    · obtain ⟨e, n, ne, nf, d⟩ := I.pin p hp
      exact ⟨(hs.2 p.1 ne).trans e, n, ne, nf, d⟩
  · have hfn : X.fn x = true := by
      rcases hf with z | z
      · exact z
      · rw [z] at hk; cases hk
    obtain ⟨c, hc⟩ := I.ok.has x (.inl hk)
    obtain ⟨w', z⟩ := I.cell x c hc
    refine wpAny_storeName_cell I.ok.kind hk hc z (fun h' hc' hs => ?_)
    obtain ⟨oc, hoc, hocd⟩ := id z
    refine h { s with heap := h' } ⟨I.ok, I.os, I.bare.trans (.same rfl rfl), ⟨fun b o e n hb hx => ?_, fun b o e n hb hx => ?_, I.base.free, fun b o e hx => ?_, I.base.tups, I.base.frzs, I.base.tbls⟩, ⟨m, hn.sameBut hs (Ne.symm (cne x c hc)), fun j y v' e1 e2 e3 => ?_⟩, fun y c' e => ?_, I.free, I.freeC, fun p hp => ?_, tracked ⟨oc, hoc, I.freeC x c hc⟩ hs, by simpa using I.len⟩ ⟨c, hs, .inr hc⟩
    · exact (hs.2 b (Nat.ne_of_lt (Nat.lt_of_lt_of_le (Heap.lt_size e) (I.ok.cab x c hfn hc)))).trans (I.base.keep b o e n hb hx)
    · obtain ⟨sl, e1⟩ := I.base.slot b o e n hb hx
      exact ⟨sl, (hs.2 b (Nat.ne_of_lt (Nat.lt_of_lt_of_le (Heap.lt_size e) (I.ok.cab x c hfn hc)))).trans e1⟩
    · obtain ⟨o', e1⟩ := I.base.there b o e hx
      exact ⟨o', (hs.2 b (Nat.ne_of_lt (Nat.lt_of_lt_of_le (Heap.lt_size e) (I.ok.cab x c hfn hc)))).trans e1⟩
    · by_cases hj : j = i
      · subst hj
        rw [hi] at e1; cases e1
        rw [List.getElem?_set_self hiσ] at e2
        cases e2
        exact ⟨u, r, .inr ⟨.inl hk, c, hc, hc'⟩⟩
      · rw [List.getElem?_set_ne (Ne.symm hj)] at e2
        obtain ⟨u', r', q⟩ := hl j y v' e1 e2 e3
        refine ⟨u', r', ?_⟩
        rcases q with q | ⟨k, c', e, z'⟩
        · exact .inl q
        · refine .inr ⟨k, c', e, z'.sameBut hs ?_⟩
          rintro rfl
          exact hj (nodup_ix hN e1 (I.ok.inj _ _ _ e hc ▸ hi))
    · by_cases hcc : c' = c
      · subst hcc; exact ⟨_, hc'⟩
      · obtain ⟨w2, z2⟩ := I.cell y c' e
        exact ⟨w2, z2.sameBut hs hcc⟩
    · obtain ⟨e, n, ne, nf, d⟩ := I.pin p hp
      refine ⟨(hs.2 p.1 ?_).trans e, n, ne, nf, d⟩
      intro q
      rw [q, hoc] at e
      have q' : oc = p.2 := Option.some.inj e
      exact d w' (by rw [← q']; exact hocd)
theorem store_ok {M : Model} {A : Around} {E : Value → Shared → Prop} {i : Nat} {x : Str} {v : V} {u : Value} {Q : Unit → Shared → Prop} (I : Inv X pins σ H s) (hN : X.N.Nodup) (hi : X.N[i]? = some x) (hx : Loc X.env.scope x) (r : RelV v u)
    (h : ∀ s', Inv X pins (σ.set i (some v)) H s' → Q () s') (hf : X.fn x = true ∨ X.env.scope.names.lookup x = some .local := by first | exact .inl rfl | exact .inr rfl | assumption) : wpAny M A (storeName X.env x u) Q E s :=
  store_ok2 I hN hi hx r (fun s' I' _ => h s' I') hf
theorem Inv.call' {s' : Shared} {ch : List Addr} (I : Inv X pins σ H s) (ho : s'.os = s.os) (u : Un (frs X.stack) ch H H' s.heap s'.heap) (hok : HOk X.prog X.w H' s'.heap) (hg : GG s s')
    (hch : ∀ b ∈ ch, (b ∈ X.ex ∨ X.s_0.heap.objs.size ≤ b) ∧ b ≠ X.env.locals ∧ (∀ x c, X.env.cells.lookup x = some c → c ≠ b) ∧ ∀ p ∈ X.pn ++ pins, p.1 ≠ b) : Inv X pins σ H' s' := by
  obtain ⟨h', g', d', t', o'⟩ := s'
  have e : o' = s.os := ho
  subst e
  exact I.call (g' := g') (t' := t') (d' := d') u hok hg hch
end
abbrev XK := Value → Option Addr → Hp → Prop
abbrev St := List (Option V)
abbrev VK := V → Hp → Prop
abbrev TE := St → Hp → VK → Prop
abbrev TT := St → Hp → (Bool → Hp → Prop) → Prop
abbrev TA := St → Hp → (List V → Hp → Prop) → Prop
structure Ends where
  nx : St → Hp → Prop
  rt : VK
  bk : St → Hp → Prop := fun _ _ => False
  ct : St → Hp → Prop := fun _ _ => False
abbrev TS := Ends → St → Hp → Prop
def EP (X : Cx) (pins : List (Addr × Obj)) (σ : St) (Q : VK) (u : Value) (s' : Shared) : Prop := ∃ v H', Inv X pins σ H' s' ∧ RelV v u ∧ Q v H'
def TP (X : Cx) (pins : List (Addr × Obj)) (σ : St) (Q : Bool → Hp → Prop) (b : Bool) (s' : Shared) : Prop := ∃ H', Inv X pins σ H' s' ∧ Q b H'
def AP (X : Cx) (pins : List (Addr × Obj)) (σ : St) (Q : List V → Hp → Prop) (us : List Value) (s' : Shared) : Prop := ∃ vs H', Inv X pins σ H' s' ∧ Vals vs us ∧ Q vs H'
def SP (X : Cx) (pins : List (Addr × Obj)) (D : Ends) (f : Flow) (s' : Shared) : Prop :=
  match f with
  | .next => ∃ σ' H', Inv X pins σ' H' s' ∧ D.nx σ' H'
  | .brk => ∃ σ' H', Inv X pins σ' H' s' ∧ D.bk σ' H'
  | .cont => ∃ σ' H', Inv X pins σ' H' s' ∧ D.ct σ' H'
  | .ret u => ∃ v σ' H', Inv X pins σ' H' s' ∧ RelV v u ∧ D.rt v H'
def PE (X : Cx) (e : Expr) (t : TE) : Prop :=
  ∀ (pins : List (Addr × Obj)) (s : Shared) (σ : St) (H : Hp) (Q : VK), Inv X pins σ H s → t σ H Q → wpAny (model X.prog X.w) X.A (eval e X.env) (EP X pins σ Q) X.xe s
def PT (X : Cx) (e : Expr) (t : TT) : Prop :=
  ∀ (pins : List (Addr × Obj)) (s : Shared) (σ : St) (H : Hp) (Q : Bool → Hp → Prop), Inv X pins σ H s → t σ H Q → wpAny (model X.prog X.w) X.A (isTrue e X.env (eval e X.env)) (TP X pins σ Q) X.xe s
def PW (X : Cx) (e : Expr) (t : TT) : Prop :=
  ∀ (whole : Sem Value) (pins : List (Addr × Obj)) (s : Shared) (σ : St) (H : Hp) (Q : Bool → Hp → Prop), Inv X pins σ H s → t σ H Q → wpAny (model X.prog X.w) X.A (isTrue e X.env whole) (TP X pins σ Q) X.xe s
theorem PW.pt {X : Cx} {e : Expr} {t : TT} (h : PW X e t) : PT X e t := h _
def PA (X : Cx) (es : List Expr) (t : TA) : Prop :=
  ∀ (pos : Pos) (pins : List (Addr × Obj)) (s : Shared) (σ : St) (H : Hp) (Q : List V → Hp → Prop), Inv X pins σ H s → t σ H Q → wpAny (model X.prog X.w) X.A (spliced (backTo pos (starEach es X.env))) (AP X pins σ Q) X.xe s
def PS (X : Cx) (st : Stmt) (t : TS) : Prop :=
  ∀ (pins : List (Addr × Obj)) (s : Shared) (σ : St) (H : Hp) (D : Ends), Inv X pins σ H s → t D σ H → wpAny (model X.prog X.w) X.A (exec st X.env) (SP X pins D) X.xe s
def PSs (X : Cx) (st : List Stmt) (t : TS) : Prop :=
  ∀ (pins : List (Addr × Obj)) (s : Shared) (σ : St) (H : Hp) (D : Ends), Inv X pins σ H s → t D σ H → wpAny (model X.prog X.w) X.A (execs st X.env) (SP X pins D) X.xe s
theorem thn {α : Type} {t : Sem α} {Q Q' : α → Shared → Prop} {M : Model} {A : Around} {E : Value → Shared → Prop} {s : Shared} (h : wpAny M A t Q E s) (hQ : ∀ a s, Q a s → Q' a s) : wpAny M A t Q' E s := wpAny_mono h hQ fun _ _ x => x
end L2
namespace L2
open PySem PySem.Spec PyProof.Rows
section
variable {X : Cx}
theorem bin {a b : Expr} {ta tb : TE} (ha : PE X a ta) (hb : PE X b tb) {pins : List (Addr × Obj)} {s : Shared} {σ : St} {H : Hp} {R : V → V → Hp → Prop} (I : Inv X pins σ H s) (h : ta σ H fun x H1 => tb σ H1 fun y H2 => R x y H2)
    {α : Type} {Q : α → Shared → Prop} {f : Value → Value → Sem α}
    (hf : ∀ v u s2 x y H2, Inv X pins σ H2 s2 → RelV x v → RelV y u → R x y H2 → wpAny (model X.prog X.w) X.A (f v u) Q X.xe s2) :
    wpAny (model X.prog X.w) X.A (eval a X.env) (fun v s₁ => wpAny (model X.prog X.w) X.A (eval b X.env) (fun u s₂ => wpAny (model X.prog X.w) X.A (f v u) Q X.xe s₂) X.xe s₁) X.xe s := by
  refine thn (ha pins s σ H _ I h) fun v s1 ⟨x, H1, I1, r1, q1⟩ => ?_
  refine thn (hb pins s1 σ H1 _ I1 q1) fun u s2 ⟨y, H2, I2, r2, q2⟩ => ?_
  exact hf v u s2 x y H2 I2 r1 r2 q2
def tVar (i : Nat) : TE := fun σ H Q => ∃ v, σ[i]? = some (some v) ∧ Q v H
def tC (v : V) : TE := fun _ H Q => Q v H
theorem pe_var {i : Nat} {x : Str} {pos : Pos} (hN : X.N[i]? = some x) (hv : Vis X.env.scope x) (hd : (x == ("__debug__" : Str)) = false := by decide) (hcd : (x == ("__classdict__" : Str)) = false := by decide) : PE X (.Name x pos) (tVar i) := by
  intro pins s σ H Q I h
  obtain ⟨v, e, h⟩ := h
  obtain ⟨m, hn, hl⟩ := I.loc
  obtain ⟨u, r, l⟩ := hl i x v hN e hv
  have fin : EP X pins σ Q u s := ⟨v, H, I, r, h⟩
  rcases l with ⟨hk, hm⟩ | ⟨hk, c, hc, hcell⟩
  · exact wpAny_Name (wpAny_loadName_local I.ok.kind hk hn hm fin) hd
  · rcases hk with hk | hk
    · exact wpAny_Name (wpAny_loadName_cell I.ok.kind hk hc hcell fin) hd
    · exact wpAny_Name (wpAny_loadName_free I.ok.kind hk hc hcell fin hcd) hd
theorem pe_int {i j pos} : PE X (.Constant (.int i) j pos) (tC (.int i)) := fun _ _ _ H _ I h => wpAny_Constant_int ⟨.int i, H, I.tok _, ⟨_, rfl⟩, h⟩
theorem pe_bl {b j pos} : PE X (.Constant (.bool b) j pos) (tC (.bl b)) := fun _ _ _ H _ I h => Constant_bool ⟨.bl b, H, I, rfl, h⟩
theorem pe_non {j pos} : PE X (.Constant .none j pos) (tC .non) := fun _ _ _ H _ I h => Constant_none ⟨.non, H, I, rfl, h⟩
theorem pe_str {x j pos} : PE X (.Constant (.str x) j pos) (tC (.str x)) := fun _ _ _ H _ I h => Calls.Constant_str ⟨.str x, H, I.tok _, ⟨_, rfl⟩, h⟩
def Gl (X : Cx) (x : Str) : Prop := X.env.kindOf x = some .globalImplicit
theorem ld_glob {E : Value → Shared → Prop} {pins : List (Addr × Obj)} {s : Shared} {σ : St} {H : Hp} {x : Str} {u : Value} {pos : Pos} {Q : Value → Shared → Prop} (I : Inv X pins σ H s) (hg : Gl X x) (hm : X.mg x = some u) (h : Q u s)
    (hd : (x == ("__debug__" : Str)) = false := by decide) : wpAny (model X.prog X.w) X.A (eval (.Name x pos) X.env) Q E s :=
  Calls.Name_function_global I.ok.kind hg (Calls.loadGlobal_global (by rw [I.ok.glob]; exact I.mod.glob.keeps I.bk) hm h) hd
theorem ld_blt {E : Value → Shared → Prop} {pins : List (Addr × Obj)} {s : Shared} {σ : St} {H : Hp} {x : Str} {u : Value} {pos : Pos} {Q : Value → Shared → Prop} (I : Inv X pins σ H s) (hg : Gl X x) (hm : X.mg x = none) (hv : bootBuiltins x = some u) (h : Q u s)
    (hn : x ≠ "__name__" := by decide) (hd : (x == ("__debug__" : Str)) = false := by decide) : wpAny (model X.prog X.w) X.A (eval (.Name x pos) X.env) Q E s := by
  obtain ⟨mb, h1, h2⟩ := I.mod.blt
  exact Calls.Name_function_global I.ok.kind hg (Calls.loadGlobal_builtin (by rw [I.ok.glob]; exact I.mod.glob.keeps I.bk) hm (by rw [I.ok.blt]; exact h1.keeps I.bk) ((h2 x hn).trans hv) h) hd
theorem pe_glob {x : Str} {v : V} {u : Value} {pos : Pos} (hg : Gl X x) (hm : X.mg x = some u) (r : RelV v u) (hd : (x == ("__debug__" : Str)) = false := by decide) : PE X (.Name x pos) (tC v) :=
  fun _ _ _ H _ I h => ld_glob I hg hm ⟨v, H, I, r, h⟩ hd
variable {a b : Expr} {ta tb : TE} {pos : Pos}
def tB (t : TE) : TT := fun σ H Q => t σ H fun x H1 => ∃ c, x = .bl c ∧ Q c H1
variable {tA tB' : TT} {rest : List Expr}
def tAnd (t u : TT) : TT := fun σ H Q => t σ H fun c H1 => if c = true then u σ H1 Q else Q false H1
def tOr (t u : TT) : TT := fun σ H Q => t σ H fun c H1 => if c = true then Q true H1 else u σ H1 Q
def tNot (t : TT) : TT := fun σ H Q => t σ H fun c H1 => Q (!c) H1
theorem pw_and1 (ha : PT X a tA) : PW X (.BoolOp .And [a] pos) tA := by
  intro wh pins s σ H Q I h
  refine isTrue_and (thn (ha pins s σ H Q I h) fun c s1 e => ?_)
  cases c with
  | true => exact isTrue_and_nil e
  | false => exact e
theorem pw_or1 (ha : PT X a tA) : PW X (.BoolOp .Or [a] pos) tA := by
  intro wh pins s σ H Q I h
  refine isTrue_or (thn (ha pins s σ H Q I h) fun c s1 e => ?_)
  cases c with
  | false => exact isTrue_or_nil e
  | true => exact e
theorem pw_and (ha : PT X a tA) (hb : PW X (.BoolOp .And (b :: rest) pos) tB') : PW X (.BoolOp .And (a :: b :: rest) pos) (tAnd tA tB') := by
  intro wh pins s σ H Q I h
  refine isTrue_and (thn (ha pins s σ H _ I h) fun c s1 ⟨H1, I1, q1⟩ => ?_)
  cases c with
  | true => exact hb wh pins s1 σ H1 Q I1 q1
  | false => exact ⟨H1, I1, q1⟩
theorem pw_or (ha : PT X a tA) (hb : PW X (.BoolOp .Or (b :: rest) pos) tB') : PW X (.BoolOp .Or (a :: b :: rest) pos) (tOr tA tB') := by
  intro wh pins s σ H Q I h
  refine isTrue_or (thn (ha pins s σ H _ I h) fun c s1 ⟨H1, I1, q1⟩ => ?_)
  cases c with
  | true => exact ⟨H1, I1, q1⟩
  | false => exact hb wh pins s1 σ H1 Q I1 q1
theorem pt_not (ha : PT X a tA) : PT X (.UnaryOp .Not a pos) (tNot tA) := by
  intro pins s σ H Q I h
  exact isTrue_not (ha pins s σ H (fun c H1 => Q (!c) H1) I h)
def tAndV (ta tb : TE) : TE := fun σ H Q => ta σ H fun x H1 => ∃ c, x = .bl c ∧ if c = true then tb σ H1 Q else Q (.bl false) H1
def tOrV (ta tb : TE) : TE := fun σ H Q => ta σ H fun x H1 => ∃ c, x = .bl c ∧ if c = true then Q (.bl true) H1 else tb σ H1 Q
def tNotV (ta : TE) : TE := fun σ H Q => ta σ H fun x H1 => ∃ c, x = .bl c ∧ Q (.bl (!c)) H1
theorem pe_one {op} {t : TE} (h : PE X a t) : PE X (.BoolOp op [a] pos) t := fun pins s σ H Q I hw => BoolOp_one (h pins s σ H Q I hw)
theorem pe_and (ha : PE X a ta) (hb : PE X (.BoolOp .And (b :: rest) pos) tb) : PE X (.BoolOp .And (a :: b :: rest) pos) (tAndV ta tb) := by
  intro pins s σ H Q I h
  refine BoolOp_and (thn (ha pins s σ H _ I h) fun v s1 ⟨x, H1, I1, r1, q1⟩ => ?_)
  obtain ⟨c, rfl, q1⟩ := q1
  cases r1
  refine wpAny_truthy_bool ?_
  cases c with
  | true => exact hb pins s1 σ H1 Q I1 q1
  | false => exact ⟨.bl false, H1, I1, rfl, q1⟩
theorem pe_or (ha : PE X a ta) (hb : PE X (.BoolOp .Or (b :: rest) pos) tb) : PE X (.BoolOp .Or (a :: b :: rest) pos) (tOrV ta tb) := by
  intro pins s σ H Q I h
  refine BoolOp_or (thn (ha pins s σ H _ I h) fun v s1 ⟨x, H1, I1, r1, q1⟩ => ?_)
  obtain ⟨c, rfl, q1⟩ := q1
  cases r1
  refine wpAny_truthy_bool ?_
  cases c with
  | false => exact hb pins s1 σ H1 Q I1 q1
  | true => exact ⟨.bl true, H1, I1, rfl, q1⟩
theorem pe_not (ha : PE X a ta) : PE X (.UnaryOp .Not a pos) (tNotV ta) := by
  intro pins s σ H Q I h
  refine UnaryOp_ (thn (ha pins s σ H _ I h) fun v s1 ⟨x, H1, I1, r1, q1⟩ => ?_)
  obtain ⟨c, rfl, q1⟩ := q1
  cases r1
  exact not_of (wpAny_truthy_bool ⟨.bl (!c), H1, I1, rfl, q1⟩)
def tIf (t : TT) (ta tb : TE) : TE := fun σ H Q => t σ H fun c H1 => if c = true then ta σ H1 Q else tb σ H1 Q
theorem pe_ifExp {c : Expr} (hc : PT X c tA) (ha : PE X a ta) (hb : PE X b tb) : PE X (.IfExp c a b pos) (tIf tA ta tb) := by
  intro pins s σ H Q I h
  refine wpAny_IfExp (thn (hc pins s σ H _ I h) fun d s1 ⟨H1, I1, q1⟩ => ?_)
  cases d with
  | true => exact ha pins s1 σ H1 Q I1 q1
  | false => exact hb pins s1 σ H1 Q I1 q1
end
end L2
namespace L2
open PySem PySem.Spec PyProof.Rows
def SqL (K : PySem.W.Frag) (H : Hp) (a : Addr) (xs : List V) : Prop :=
  Rd H a (.lst xs) ∨
    ∃ (o : Obj) (its : Array Value) (n : Nat), K.lookup a = some o ∧ o.cls = .type "list" ∧ o.dict = none ∧ o.data = .seq its n ∧ its.size ≤ sizeLine ∧ Vals xs its.toList
def SqT (K : PySem.W.Frag) (H : Hp) (a : Addr) (xs : List V) : Prop :=
  Rd H a (.tup xs) ∨
    ∃ (o : Obj) (its : Array Value) (n : Nat), K.lookup a = some o ∧ o.cls = .type "tuple" ∧ o.data = .seq its n ∧ its.size ≤ sizeLine ∧ Vals xs its.toList
def absV : Value → Option V
  | .none => some .non
  | .bool b => some (.bl b)
  | .int i _ => some (.int i)
  | .str x _ => some (.str x)
  | .bytes b _ => some (.byt b)
  | .float b _ => some (.flt b)
  | .ref a => some (.ref a)
  | .type n => some (.ty n)
  | _ => none
theorem RelV.abs {x : V} {u : Value} (r : RelV x u) : absV u = some x := by
  cases x with
  | non => cases r; rfl
  | bl _ => cases r; rfl
  | int _ => obtain ⟨t, rfl⟩ := r; rfl
  | str _ => obtain ⟨t, rfl⟩ := r; rfl
  | byt _ => obtain ⟨t, rfl⟩ := r; rfl
  | flt _ => obtain ⟨t, rfl⟩ := r; rfl
  | ref _ => cases r; rfl
  | ty _ => cases r; rfl
theorem RelV.inj {x y : V} {u : Value} (r : RelV x u) (q : RelV y u) : x = y := Option.some.inj (r.abs.symm.trans q.abs)
theorem Vals.inj : ∀ {xs ys : List V} {us : List Value}, Vals xs us → Vals ys us → xs = ys
  | _, _, _, .nil, .nil => rfl
  | _, _, _, .cons r t, .cons r' t' => by rw [r.inj r', Vals.inj t t']
section
variable {X : Cx} {pins : List (Addr × Obj)} {σ : St} {H : Hp} {s : Shared} {a : Addr} {xs ys : List V}
theorem SqL.of {K : PySem.W.Frag} (h : H a = some (.lst xs)) : SqL K H a xs := .inl (.inl h)
theorem SqT.of {K : PySem.W.Frag} (h : H a = some (.tup xs)) : SqT K H a xs := .inl (.inl h)
theorem Inv.list (I : Inv X pins σ H s) (h : SqL X.K H a xs) : ∃ its : List Value, Vals xs its ∧ PlainL s.heap a its.toArray ∧ xs.length ≤ sizeLine := by
  rcases h with h | ⟨o, its, n, hk, hc, hd, hs, hz, r⟩
  · obtain ⟨z, its, n, r, e⟩ := h.ok I.hok
    exact ⟨its, r, ⟨_, n, e, rfl, rfl, rfl⟩, z⟩
  · refine ⟨its.toList, r, ⟨o, n, I.kIn a o hk, hc, hd, by simpa using hs⟩, ?_⟩
    have e := r.length
    simp only [Array.length_toList] at e
    omega
theorem Inv.tuple (I : Inv X pins σ H s) (h : SqT X.K H a xs) : ∃ its : List Value, Vals xs its ∧ IsTup s.heap a its.toArray ∧ xs.length ≤ sizeLine := by
  rcases h with h | ⟨o, its, n, hk, hc, hs, hz, r⟩
  · obtain ⟨z, its, r, p⟩ := h.ok I.hok
    exact ⟨its, r, p, z⟩
  · refine ⟨its.toList, r, ⟨o, I.kIn a o hk, hc, n, by simpa using hs⟩, ?_⟩
    have e := r.length
    simp only [Array.length_toList] at e
    omega
theorem Inv.list_inj (I : Inv X pins σ H s) (h : SqL X.K H a xs) (h' : SqL X.K H a ys) : xs = ys := by
  obtain ⟨its, r, ⟨o, n, e, _, _, d⟩, _⟩ := I.list h
  obtain ⟨its', r', ⟨o', n', e', _, _, d'⟩, _⟩ := I.list h'
  rw [e] at e'; cases e'
  rw [d] at d'
  injection d' with d1 _
  have : its = its' := by simpa using congrArg Array.toList d1
  subst this
  exact r.inj r'
theorem Inv.tuple_inj (I : Inv X pins σ H s) (h : SqT X.K H a xs) (h' : SqT X.K H a ys) : xs = ys := by
  obtain ⟨its, r, ⟨o, e, _, n, d⟩, _⟩ := I.tuple h
  obtain ⟨its', r', ⟨o', e', _, n', d'⟩, _⟩ := I.tuple h'
  rw [e] at e'; cases e'
  rw [d] at d'
  injection d' with d1 _
  have : its = its' := by simpa using congrArg Array.toList d1
  subst this
  exact r.inj r'
end
abbrev Cx.wish (X : Cx) (E : Value → Shared → Prop) : Cx := { X with xe := E }
abbrev Cx.nox (X : Cx) : Cx := X.wish fun _ _ => False
theorem Cx.Ok.wish {X : Cx} (ok : X.Ok) (E : Value → Shared → Prop) : (X.wish E).Ok :=
  ⟨ok.mod, ok.kind, ok.glob, ok.blt, ok.above, ok.inj, ok.has, ok.cab, ok.hd, ok.frames, ok.stk, ok.exf, ok.bs, ok.bsz, ok.noex, ok.exfs, ok.funs, ok.frf⟩
theorem Cx.Ok.unwish {X : Cx} {E : Value → Shared → Prop} (ok : (X.wish E).Ok) : X.Ok :=
  ⟨ok.mod, ok.kind, ok.glob, ok.blt, ok.above, ok.inj, ok.has, ok.cab, ok.hd, ok.frames, ok.stk, ok.exf, ok.bs, ok.bsz, ok.noex, ok.exfs, ok.funs, ok.frf⟩
section
variable {X : Cx} {pins : List (Addr × Obj)} {σ : St} {H : Hp} {s : Shared} {E : Value → Shared → Prop}
theorem Inv.wish (I : Inv X pins σ H s) (E : Value → Shared → Prop) : Inv (X.wish E) pins σ H s := ⟨I.ok.wish E, I.os, I.bare, I.base, I.loc, I.cell, I.free, I.freeC, I.pin, I.hok, I.len⟩
theorem Inv.unwish (I : Inv (X.wish E) pins σ H s) : Inv X pins σ H s := ⟨I.ok.unwish, I.os, I.bare, I.base, I.loc, I.cell, I.free, I.freeC, I.pin, I.hok, I.len⟩
theorem SP.unwish {D : Ends} {f : Flow} {s' : Shared} (h : SP (X.wish E) pins D f s') : SP X pins D f s' := by
  cases f with
  | next => obtain ⟨σ', H', I, q⟩ := h; exact ⟨σ', H', I.unwish, q⟩
  | brk => obtain ⟨σ', H', I, q⟩ := h; exact ⟨σ', H', I.unwish, q⟩
  | cont => obtain ⟨σ', H', I, q⟩ := h; exact ⟨σ', H', I.unwish, q⟩
  | ret u => obtain ⟨v, σ', H', I, r, q⟩ := h; exact ⟨v, σ', H', I.unwish, r, q⟩
theorem PE.nox {e : Expr} {t : TE} (h : PE X.nox e t) : PE X e t := fun pins s σ H Q I hw =>
  wpAny_mono (h pins s σ H Q (I.wish _) hw) (fun _ _ ⟨v, H', I', r, q⟩ => ⟨v, H', I'.unwish, r, q⟩) fun _ _ z => False.elim z
theorem PT.nox {e : Expr} {t : TT} (h : PT X.nox e t) : PT X e t := fun pins s σ H Q I hw =>
  wpAny_mono (h pins s σ H Q (I.wish _) hw) (fun _ _ ⟨H', I', q⟩ => ⟨H', I'.unwish, q⟩) fun _ _ z => False.elim z
theorem PSs.nox {st : List Stmt} {t : TS} (h : PSs X.nox st t) : PSs X st t := fun pins s σ H D I hw =>
  wpAny_mono (h pins s σ H D (I.wish _) hw) (fun _ _ q => q.unwish) fun _ _ z => False.elim z
end
section
variable {X : Cx} {st : Stmt} {rest : List Stmt} {t u : TS} {e : Expr} {te : TE} {pos : Pos}
def tNext : TS := fun D σ H => D.nx σ H
def tSeq (t u : TS) : TS := fun D σ H => t { D with nx := u D } σ H
theorem pss_nil : PSs X [] tNext := fun _ _ σ H _ I h => wpAny_execs_nil ⟨σ, H, I, h⟩
theorem pss_cons (h1 : PS X st t) (h2 : PSs X rest u) : PSs X (st :: rest) (tSeq t u) := by
  intro pins s σ H D I h
  refine wpAny_execs_cons (thn (h1 pins s σ H { D with nx := u D } I h) fun f s1 q => ?_)
  cases f with
  | next =>
    obtain ⟨σ', H', I', q⟩ := q
    exact h2 pins s1 σ' H' D I' q
  | ret v => exact q
  | brk => exact q
  | cont => exact q
theorem pss_one (h1 : PS X st t) : PSs X [st] t := by
  intro pins s σ H D I h
  refine wpAny_execs_cons (thn (h1 pins s σ H D I h) fun f s1 q => ?_)
  cases f with
  | next => exact wpAny_execs_nil q
  | ret v => exact q
  | brk => exact q
  | cont => exact q
def tBreak : TS := fun D σ H => D.bk σ H
def tCont : TS := fun D σ H => D.ct σ H
theorem ps_pass : PS X (.Pass pos) tNext := fun _ _ σ H _ I h => wpAny_Pass ⟨σ, H, I, h⟩
theorem ps_break : PS X (.Break pos) tBreak := fun _ _ σ H _ I h => wpAny_Break ⟨σ, H, I, h⟩
theorem ps_continue : PS X (.Continue pos) tCont := fun _ _ σ H _ I h => wpAny_Continue ⟨σ, H, I, h⟩
theorem Inv.quiet {pins : List (Addr × Obj)} {σ : St} {H : Hp} {s : Shared} (I : Inv X pins σ H s) : interactive X.env = false := by simp [interactive, I.ok.kind]
theorem ps_doc {x j pos pos'} : PS X (.Expr (.Constant (.str x) j pos) pos') tNext := fun _ s σ H _ I h => wpAny_Expr (Calls.Constant_str (show SP X _ _ .next { s with toks := s.toks + 1 } from ⟨σ, H, I.tok _, h⟩)) I.quiet
def tDrop (te : TE) : TS := fun D σ H => te σ H fun _ H1 => D.nx σ H1
theorem ps_expr (he : PE X e te) (hs : swapsWith e none pos.line X.env = pure false := by rfl) : PS X (.Expr e pos) (tDrop te) := by
  intro pins s σ H D I h
  exact wpAny_Expr_any (thn (he pins s σ H _ I h) fun v s1 ⟨x, H1, I1, r1, q1⟩ => ⟨σ, H1, I1, q1⟩) I.quiet hs
def tRet (te : TE) : TS := fun D σ H => te σ H D.rt
theorem ps_ret (he : PE X e te) : PS X (.Return (some e) pos) (tRet te) := by
  intro pins s σ H D I h
  exact wpAny_Return_some (thn (he pins s σ H _ I h) fun v s1 ⟨x, H1, I1, r1, q1⟩ => ⟨x, σ, H1, I1, r1, q1⟩)
def tRetN : TS := fun D _ H => D.rt .non H
theorem ps_retN : PS X (.Return none pos) tRetN := fun _ _ σ H _ I h => wpAny_Return_none ⟨.non, σ, H, I, rfl, h⟩
def tIfS (c : TT) (t u : TS) : TS := fun D σ H => c σ H fun b H1 => if b = true then t D σ H1 else u D σ H1
theorem ps_if {c : Expr} {a b : List Stmt} {tc : TT} (hc : PT X c tc) (ha : PSs X a t) (hb : PSs X b u) : PS X (.If c a b pos) (tIfS tc t u) := by
  intro pins s σ H D I h
  refine wpAny_If (thn (hc pins s σ H _ I h) fun d s1 ⟨H1, I1, q1⟩ => ?_)
  cases d with
  | true => exact ha pins s1 σ H1 D I1 q1
  | false => exact hb pins s1 σ H1 D I1 q1
end
abbrev TG := V → St → Hp → (St → Hp → Prop) → Prop
abbrev TGs := List V → St → Hp → (St → Hp → Prop) → Prop
def PG (X : Cx) (target : Expr) (t : TG) : Prop :=
  ∀ (pins : List (Addr × Obj)) (s : Shared) (σ : St) (H : Hp) (v : V) (u : Value) (Q : St → Hp → Prop), Inv X pins σ H s → RelV v u → t v σ H Q →
    wpAny (model X.prog X.w) X.A (assign target X.env u) (fun _ s' => ∃ σ' H', Inv X pins σ' H' s' ∧ Q σ' H') X.xe s
def PGs (X : Cx) (ts : List Expr) (t : TGs) : Prop :=
  ∀ (pins : List (Addr × Obj)) (s : Shared) (σ : St) (H : Hp) (vs : List V) (us : List Value) (Q : St → Hp → Prop), Inv X pins σ H s → Vals vs us → t vs σ H Q →
    wpAny (model X.prog X.w) X.A (assignInOrder ((assignEach ts X.env).map (·.2)) us) (fun _ s' => ∃ σ' H', Inv X pins σ' H' s' ∧ Q σ' H') X.xe s
abbrev TSet := V → V → V → Hp → (Hp → Prop) → Prop
def PSet (X : Cx) (t : TSet) : Prop :=
  ∀ (pins : List (Addr × Obj)) (s : Shared) (σ : St) (H : Hp) (o i v : V) (ov iv u : Value) (Q : Hp → Prop), Inv X pins σ H s → RelV o ov → RelV i iv → RelV v u → t o i v H Q →
    wpAny (model X.prog X.w) X.A (setItem ov iv u) (fun _ s' => ∃ H', Inv X pins σ H' s' ∧ Q H') X.xe s
abbrev TIp := V → V → Hp → VK → Prop
def PIp (X : Cx) (op : Operator) (t : TIp) : Prop :=
  ∀ (pins : List (Addr × Obj)) (s : Shared) (σ : St) (H : Hp) (x y : V) (v u : Value) (Q : VK), Inv X pins σ H s → RelV x v → RelV y u → t x y H Q →
    wpAny (model X.prog X.w) X.A (inplaceOp op v u) (EP X pins σ Q) X.xe s
section
variable {X : Cx} {pos : Pos}
def gName (i : Nat) : TG := fun v σ H Q => Q (σ.set i (some v)) H
theorem pg_name {i : Nat} {x : Str} (hN : X.N.Nodup) (hi : X.N[i]? = some x) (hx : Loc X.env.scope x) (hf : X.fn x = true ∨ X.env.scope.names.lookup x = some .local := by first | exact .inl rfl | exact .inr rfl | assumption) : PG X (.Name x pos) (gName i) := by
  intro pins s σ H v u Q I r h
  exact wpAny_assign_Name (store_ok I hN hi hx r (fun s' I' => ⟨_, H, I', h⟩) hf)
def gNil : TGs := fun vs σ H Q => vs = [] ∧ Q σ H
def gCons (t : TG) (u : TGs) : TGs := fun vs σ H Q => ∃ v r, vs = v :: r ∧ t v σ H fun σ' H' => u r σ' H' Q
theorem pgs_nil : PGs X [] gNil := by
  intro pins s σ H vs us Q I r h
  obtain ⟨e, h⟩ := h
  subst e
  cases r
  exact assignInOrder_nil ⟨σ, H, I, h⟩
theorem pgs_cons {e : Expr} {es : List Expr} {t : TG} {u : TGs} (h1 : PG X e t) (h2 : PGs X es u)
    (hs : (assignEach (e :: es) X.env).map (·.2) = assign e X.env :: (assignEach es X.env).map (·.2) := by rfl) : PGs X (e :: es) (gCons t u) := by
  intro pins s σ H vs us Q I r h
  obtain ⟨v, vr, e1, h⟩ := h
  subst e1
  cases r with
  | cons r rr =>
    rw [hs]
    refine assignInOrder_cons (thn (h1 pins s σ H _ _ _ I r h) fun _ s1 ⟨σ1, H1, I1, q1⟩ => ?_)
    exact h2 pins s1 σ1 H1 _ _ Q I1 rr q1
def gTup (K : PySem.W.Frag) (n : Nat) (t : TGs) : TG := fun v σ H Q => ∃ a xs, v = .ref a ∧ SqT K H a xs ∧ xs.length = n ∧ t xs σ H Q
theorem pg_tup {es : List Expr} {k : Nat} {t : TGs} {n : Nat} (hc : X.calm = true) (h : PGs X es t)
    (hn : (assignEach es X.env).length = n := by rfl) (hst : (assignEach es X.env).findIdx? (·.1) = none := by rfl) : PG X (.Tuple es k pos) (gTup X.K n t) := by
  intro pins s σ H v u Q I r hw
  obtain ⟨a, xs, e1, hq, hl, hw⟩ := hw
  subst e1
  cases r
  obtain ⟨its, rv, ht, hz⟩ := I.tuple hq
  refine assign_Tuple_tuple (I.ok.hd hc) ht (by simp [hn, ← hl, rv.length]) hst fun h' hx => ?_
  have I1 : Inv X pins σ H { s with heap := h' } := I.kept (t' := s.toks) fun b o e => hx b o (Nat.ne_of_lt (Heap.lt_size e)) e
  exact h pins _ σ H xs _ Q I1 (by simpa using rv) hw
def gSub (to ti : TE) (t : TSet) : TG := fun v σ H Q => to σ H fun o H1 => ti σ H1 fun i H2 => t o i v H2 fun H3 => Q σ H3
theorem pg_sub {o i : Expr} {to ti : TE} {t : TSet} (ho : PE X o to) (hi : PE X i ti) (hs : PSet X t)
    (ha : ∀ v, assign (.Subscript o i pos) X.env v = (do
      let ov ← holding [v] (eval o X.env)
      let iv ← holding [v, ov] (eval i X.env)
      standAt pos
      holding [v, ov, iv] (setItem ov iv v)
      release [v, ov, iv] []) := by intro _; rfl) : PG X (.Subscript o i pos) (gSub to ti t) := by
  intro pins s σ H v u Q I r h
  rw [ha]
  refine wpAny_bind (wpAny_holding (thn (ho pins s σ H _ I h) fun ov s1 ⟨x, H1, I1, r1, q1⟩ => ?_))
  refine wpAny_bind (wpAny_holding (thn (hi pins s1 σ H1 _ I1 q1) fun iv s2 ⟨y, H2, I2, r2, q2⟩ => ?_))
  refine wpAny_bind (wpAny_standAt (wpAny_bind (wpAny_holding (thn (hs pins s2 σ H2 x y v ov iv u _ I2 r1 r2 r q2) fun _ s3 ⟨H3, I3, q3⟩ => ?_))))
  exact wpAny_release ⟨σ, H3, I3, q3⟩
def tAsg (te : TE) (g : TG) : TS := fun D σ H => te σ H fun x H1 => g x σ H1 D.nx
theorem ps_asg {tg e : Expr} {te : TE} {g : TG} (he : PE X e te) (hg : PG X tg g) (hs : swapsWithSole [tg] e pos.line X.env = pure false := by rfl) (hw : swappedStores [tg] e X.env = pure none := by rfl)
    (h1 : (assignEach [tg] X.env).map (·.2) = [assign tg X.env] := by rfl) : PS X (.Assign [tg] e pos) (tAsg te g) := by
  intro pins s σ H D I h
  refine wpAny_Assign_stores (thn (he pins s σ H _ I h) fun v s1 ⟨x, H1, I1, r1, q1⟩ => ?_) hs hw
  rw [h1]
  exact thn (hg pins s1 σ H1 x v _ I1 r1 q1) fun _ s2 q => q
theorem ps_set {i : Nat} {x : Str} {e : Expr} {te : TE} {pos' : Pos} (hN : X.N.Nodup) (hi : X.N[i]? = some x) (hx : Loc X.env.scope x) (he : PE X e te) (hs : swapsWith e (some (.Name x pos')) pos.line X.env = pure false := by rfl) (hf : X.fn x = true ∨ X.env.scope.names.lookup x = some .local := by first | exact .inl rfl | exact .inr rfl | assumption) :
    PS X (.Assign [.Name x pos'] e pos) (tAsg te (gName i)) := by
  intro pins s σ H D I h
  refine wpAny_Assign_Name (thn (he pins s σ H _ I h) fun v s1 ⟨y, H1, I1, r1, q1⟩ => ?_) hs
  exact store_ok I1 hN hi hx r1 (fun s2 I2 => ⟨_, H1, I2, q1⟩) hf
def tPar (i j : Nat) (ta : TA) : TS := fun D σ H => ta σ H fun vs H1 => ∃ v w, vs = [v, w] ∧ D.nx ((σ.set i (some v)).set j (some w)) H1
theorem ps_par {i j : Nat} {x y : Str} {a b : Expr} {ta : TA} {px py pt : Pos} {kt k2 pt2} (hc : X.calm = true) (hN : X.N.Nodup) (hi : X.N[i]? = some x) (hj : X.N[j]? = some y) (hij : i ≠ j)
    (hx : X.env.scope.names.lookup x = some .local) (hy : X.env.scope.names.lookup y = some .local) (ha : PA X [a, b] ta)
    (hw : swappedStores [.Tuple [.Name x px, .Name y py] kt pt] (.Tuple [a, b] k2 pt2) X.env = pure (some [x, y]))
    (hs : swapsWithSole [.Tuple [.Name x px, .Name y py] kt pt] (.Tuple [a, b] k2 pt2) pos.line X.env = pure false := by rfl) :
    PS X (.Assign [.Tuple [.Name x px, .Name y py] kt pt] (.Tuple [a, b] k2 pt2) pos) (tPar i j ta) := by
  intro pins s σ H D I h
  rw [exec_Assign_arm]
  refine wpAny_bind (wpAny_standAt ?_)
  rw [hs]
  refine wpAny_bind (wpAny_pure ?_)
  rw [if_neg (by decide)]
  refine wpAny_bind (Tuple_ (thn (ha _ pins s σ H _ I h) fun us s1 ⟨vs, H1, I1, r1, q1⟩ => ?_))
  obtain ⟨v, w, e1, q1⟩ := q1
  subst e1
  obtain ⟨u1, u2, rfl, rv, rw'⟩ : ∃ u1 u2, us = [u1, u2] ∧ RelV v u1 ∧ RelV w u2 := by
    cases r1 with
    | cons p q =>
      cases q with
      | cons p' q' =>
        cases q'
        exact ⟨_, _, rfl, p, p'⟩
  refine wpAny_newObj_type ?_ (by show 2 ≤ sizeLine; decide)
  have I2 : Inv X pins σ H1 { s1 with heap := s1.heap.push { cls := .type "tuple", data := .seq [u1, u2].toArray } } := I1.kept (t' := s1.toks) fun b o e => Heap.get?_push_of_some _ e
  rw [hw]
  refine wpAny_bind (wpAny_pure ?_)
  show wpAny (model X.prog X.w) X.A (do rule "assign.swapped-stores"; let items ← unpackItems (.ref s1.heap.objs.size) 2 none; assignInOrder [fun v => bindName X.env y v, fun v => bindName X.env x v] items.reverse; pure Flow.next) _ _ _
  refine wpAny_bind (wpAny_rule (wpAny_bind (unpackItems_tuple (items := #[u1, u2]) (I.ok.hd hc) (IsTup.new s1.heap _) fun h' hx' => ?_)))
  have I3 := I2.kept (h' := h') (t' := s1.toks) fun b o e => hx' b o (Nat.ne_of_lt (Heap.lt_size e)) e
  show wpAny _ _ (assignInOrder [fun v => bindName X.env y v, fun v => bindName X.env x v] [u2, u1] >>= fun _ => pure Flow.next) _ _ _
  refine wpAny_bind (assignInOrder_cons (wpAny_bindName (store_ok I3 hN hj (.inl hy) rw' (fun s2 I4 => ?_) (.inr hy))))
  refine assignInOrder_cons (wpAny_bindName (store_ok I4 hN hi (.inl hx) rv (fun s3 I5 => assignInOrder_nil (wpAny_pure ?_)) (.inr hx)))
  rw [List.set_comm _ _ (Ne.symm hij)] at I5
  exact ⟨_, H1, I5, q1⟩
def tAug (i : Nat) (te : TE) (ti : TIp) : TS := fun D σ H => ∃ x, σ[i]? = some (some x) ∧ te σ H fun y H1 => ti x y H1 fun z H2 => D.nx (σ.set i (some z)) H2
theorem ps_aug {i : Nat} {x : Str} {e : Expr} {te : TE} {op : Operator} {ti : TIp} {pos' : Pos} (hN : X.N.Nodup) (hi : X.N[i]? = some x) (hx : Loc X.env.scope x) (he : PE X e te) (ho : PIp X op ti) (hf : X.fn x = true ∨ X.env.scope.names.lookup x = some .local := by first | exact .inl rfl | exact .inr rfl | assumption) :
    PS X (.AugAssign (.Name x pos') op e pos) (tAug i te ti) := by
  intro pins s σ H D I h
  obtain ⟨v, e1, h⟩ := h
  obtain ⟨m, hn, hl⟩ := I.loc
  have vis : Vis X.env.scope x := by rcases hx with k | k; exact .inl k; exact .inr (.inl k)
  obtain ⟨u, r, l⟩ := hl i x v hi e1 vis
  refine wpAny_AugAssign_Name ?_
  have go : wpAny (model X.prog X.w) X.A (eval e X.env) (fun w s₂ => wpAny (model X.prog X.w) X.A (inplaceOp op u w) (fun r s₃ => wpAny (model X.prog X.w) X.A (storeName X.env x r) (fun _ => SP X pins D .next) X.xe s₃) X.xe s₂) X.xe s := by
    refine thn (he pins s σ H _ I h) fun w s1 ⟨y, H1, I1, r1, q1⟩ => ?_
    refine thn (ho pins s1 σ H1 v y u w _ I1 r r1 q1) fun z s2 ⟨zv, H2, I2, r2, q2⟩ => ?_
    exact store_ok I2 hN hi hx r2 (fun s3 I3 => ⟨_, H2, I3, q2⟩) hf
  rcases l with ⟨hk, hm⟩ | ⟨hk, c, hc, hcell⟩
  · exact wpAny_loadName_local I.ok.kind hk hn hm go
  · rcases hk with hk | hk
    · exact wpAny_loadName_cell I.ok.kind hk hc hcell go
    · rcases hx with k | k
      · have : X.env.scope.names.lookup x = some .free := hk
        rw [k] at this; cases this
      · have : X.env.scope.names.lookup x = some .free := hk
        rw [k] at this; cases this
end
section
variable {X : Cx} {pos : Pos}
def tWhile (c : TT) (tb : TS) : TS := fun D σ H => ∃ W : Nat → St → Hp → Prop, (∃ m, W m σ H) ∧ ∀ m σ H, W m σ H →
  c σ H fun b H1 => if b = true then ∃ N : St → Hp → Prop, (∀ σ' H', N σ' H' → ∃ m', m' < m ∧ W m' σ' H') ∧ tb { D with nx := N, ct := N, bk := D.nx } σ H1 else D.nx σ H1
theorem ps_while {c : Expr} {body : List Stmt} {tc : TT} {tb : TS} (hp : PassesOwn (model X.prog X.w) X.A X.env X.xe) (hc : PT X c tc) (hb : PSs X body tb) : PS X (.While c body [] pos) (tWhile tc tb) := by
  intro pins s σ H D I h
  obtain ⟨W, ⟨m0, w0⟩, turn⟩ := h
  refine wpAny_While (codeAny_whileLoop (fun n s' => ∃ σ' H', Inv X pins σ' H' s' ∧ W n σ' H') ?_ m0 ⟨σ, H, I, w0⟩)
  rintro n s1 ⟨σ1, H1, I1, w1⟩
  refine wpAny_passesOwn hp (thn (hc pins s1 σ1 H1 _ I1 (turn n σ1 H1 w1)) fun b s2 ⟨H2, I2, q2⟩ => ?_)
  cases b with
  | true =>
    obtain ⟨N, hN, q2⟩ := q2
    rw [if_pos rfl]
    refine wpAny_passesOwn hp (thn (hb pins s2 σ1 H2 _ I2 q2) fun f s3 q3 => ?_)
    cases f with
    | next =>
      obtain ⟨σ3, H3, I3, n3⟩ := q3
      obtain ⟨m', hm, w3⟩ := hN σ3 H3 n3
      exact ⟨m', hm, σ3, H3, I3, w3⟩
    | cont =>
      obtain ⟨σ3, H3, I3, n3⟩ := q3
      obtain ⟨m', hm, w3⟩ := hN σ3 H3 n3
      exact ⟨m', hm, σ3, H3, I3, w3⟩
    | brk => exact q3
    | ret v => exact q3
  | false =>
    rw [if_neg Bool.false_ne_true]
    exact wpAny_execs_nil ⟨σ1, H2, I2, q2⟩
end
structure It where
  go : Nat → Hp → Prop
  yld : Nat → Hp → V → Hp → Prop
  stop : Nat → Hp → Prop
def FpOk (X : Cx) (pins : List (Addr × Obj)) (H : Hp) (b : Addr) : Prop :=
  H b = none ∧ b ≠ X.env.locals ∧ b ∉ X.fs ∧ (b ∈ X.ex ∨ X.s_0.heap.objs.size ≤ b) ∧ (∀ x c, X.env.cells.lookup x = some c → c ≠ b) ∧ ∀ p ∈ X.pn ++ pins, p.1 ≠ b
theorem Inv.fpOk {X : Cx} {pins : List (Addr × Obj)} {σ : St} {H H' : Hp} {s : Shared} {b : Addr} (I : Inv X pins σ H s) (hb : s.heap.objs.size ≤ b) (hn : H' b = none) : FpOk X pins H' b := by
  refine ⟨hn, Nat.ne_of_gt (Nat.lt_of_lt_of_le I.lt hb), I.nofs hb, .inr (Nat.le_trans I.sz hb), fun x c e z => ?_, fun p hp z => ?_⟩
  · obtain ⟨v, q⟩ := I.cell x c e
    exact absurd (Nat.lt_of_lt_of_le q.lt (by rw [z]; exact hb)) (Nat.lt_irrefl _)
  · exact absurd (Nat.lt_of_lt_of_le (Heap.lt_size (I.pin p hp).1) (by rw [z]; exact hb)) (Nat.lt_irrefl _)
structure Turn (P : Program) (w : World) (K : PySem.W.Frag) (tg : Expr) (J : It) (fp : List Addr) (it : Addr) (tn : Nat → Heap → Prop) : Prop where
  mem : it ∈ fp
  obj : ∀ i h, tn i h → ∀ b ∈ fp, ∃ o, h.get? b = some o ∧ ∀ v, o.data ≠ .cell v
  keep : ∀ i h h', tn i h → (∀ b ∈ fp, ∀ o, h.get? b = some o → h'.get? b = some o) → tn i h'
  item : ∀ (X : Cx), X.prog = P → X.w = w → X.K = K → X.calm = true → ∀ (i : Nat) (pins : List (Addr × Obj)) (s : Shared) (σ : St) (H : Hp) (E : Value → Shared → Prop), Inv X pins σ H s → (∀ b ∈ fp, FpOk X pins H b) → tn i s.heap → J.go i H →
    wpAny (model P w) X.A (pyNext (.ref it)) (fun r s1 => ∃ u, r = some u ∧
      wpAny (model P w) X.A (letOwnedTupleGo tg (.ref it) u) (fun _ s2 => ∃ x H', Inv X pins σ H' s2 ∧ RelV x u ∧ J.yld i H x H' ∧ tn (i + 1) s2.heap ∧ ∀ b ∈ fp, H' b = none) E s1) E s
  done : ∀ (X : Cx), X.prog = P → X.w = w → X.K = K → X.calm = true → ∀ (i : Nat) (pins : List (Addr × Obj)) (s : Shared) (σ : St) (H : Hp) (E : Value → Shared → Prop), Inv X pins σ H s → (∀ b ∈ fp, FpOk X pins H b) → tn i s.heap → J.stop i H →
    wpAny (model P w) X.A (pyNext (.ref it)) (fun r s1 => r = none ∧ Inv X pins σ H s1) E s
  self : ∀ (A : Around) (i : Nat) (s : Shared) (Q : Value → Shared → Prop) (E : Value → Shared → Prop), tn i s.heap → Q (.ref it) s → wpAny (model P w) A (pyIter (.ref it)) Q E s
abbrev TI := St → Hp → (It → Hp → Prop) → Prop
def PIE (X : Cx) (pins : List (Addr × Obj)) (σ : St) (tg : Expr) (R : It → Hp → Prop) (itv : Value) (s2 : Shared) : Prop :=
  ∃ (it : Addr) (fp : List Addr) (tn : Nat → Heap → Prop) (J : It) (H' : Hp), itv = .ref it ∧ Inv X pins σ H' s2 ∧ Turn X.prog X.w X.K tg J fp it tn ∧ tn 0 s2.heap ∧ (∀ b ∈ fp, FpOk X pins H' b) ∧ R J H'
def PI (X : Cx) (tg iter : Expr) (wi : TI) : Prop :=
  ∀ (pins : List (Addr × Obj)) (s : Shared) (σ : St) (H : Hp) (R : It → Hp → Prop), Inv X pins σ H s → wi σ H R →
    wpAny (model X.prog X.w) X.A (eval iter X.env) (fun v s1 => wpAny (model X.prog X.w) X.A (pyIter v) (PIE X pins σ tg R) X.xe s1) X.xe s
theorem go_of {M : Model} {A : Around} {E : Value → Shared → Prop} {s : Shared} {tg : Expr} {it : Addr} {u : Value} {o : Obj} {n : String} {vs : Array Value} {Q : Unit → Shared → Prop} (ho : s.heap.get? it = some o) (hc : o.cls = .type n) (hd : o.data = .fields vs)
    (hn : ["enumerate", "zip", "dict_itemiterator", "dict_reverseitemiterator", "odict_iterator", "itertools.zip_longest", "itertools.pairwise"].contains n = false) (hQ : Q () s) : wpAny M A (letOwnedTupleGo tg (.ref it) u) Q E s := by
  unfold letOwnedTupleGo
  cases tg <;> first
    | exact wpAny_pure hQ
    | (cases u <;> first
        | exact wpAny_pure hQ
        | (refine wpAny_bind (wpAny_load ho ?_)
           rw [hc, hd]
           show wpAny M A (if (["enumerate", "zip", "dict_itemiterator", "dict_reverseitemiterator", "odict_iterator", "itertools.zip_longest", "itertools.pairwise"].contains n && vs[0]? == some (rawInt _)) = true then _ else _) Q E s
           rw [if_neg (by intro h; rw [hn, Bool.false_and] at h; cases h)]
           exact wpAny_pure hQ))
def Itl (K : PySem.W.Frag) (a : Addr) : It :=
  ⟨fun i H => ∃ xs x, SqL K H a xs ∧ xs[i]? = some x, fun i H x H' => H' = H ∧ ∀ xs, SqL K H a xs → xs[i]? = some x, fun i H => ∃ xs, SqL K H a xs ∧ xs.length ≤ i⟩
def Itt (K : PySem.W.Frag) (a : Addr) : It :=
  ⟨fun i H => ∃ xs x, SqT K H a xs ∧ xs[i]? = some x, fun i H x H' => H' = H ∧ ∀ xs, SqT K H a xs → xs[i]? = some x, fun i H => ∃ xs, SqT K H a xs ∧ xs.length ≤ i⟩
def Itr (lo : Int) (n : Nat) : It := ⟨fun i _ => i < n, fun i H x H' => H' = H ∧ x = .int (lo + i), fun i _ => n ≤ i⟩
theorem turn_list {P : Program} {w : World} {K : PySem.W.Frag} {tg : Expr} (a it : Addr) : Turn P w K tg (Itl K a) [it] it (fun i h => h.IsListIter it a i) where
  mem := by simp
  obj := fun i h st b hb => by
    have e : b = it := by simpa using hb
    subst e
    obtain ⟨o, e, c, d⟩ := st
    exact ⟨o, e, fun v z => by rw [d] at z; cases z⟩
  keep := fun i h h' st k => st.at fun o e => k it (by simp) o e
  item := by
    intro X hP hw hK hc i pins s σ H E I hf st hg
    subst hP hw hK
    obtain ⟨xs, x, hq, hx⟩ := hg
    obtain ⟨its, rv, p, hz⟩ := I.list hq
    obtain ⟨u, hu, ru⟩ := rv.get hx
    obtain ⟨f0, f1, f2, f3, f4, f5⟩ := hf it (by simp)
    refine wpAny_pyNext_list_item st p.isList (x := u) (by simpa using hu) fun h' st' sb => ?_
    have I1 : Inv X pins σ H { s with heap := h' } := I.turned (t' := s.toks) (fun b o hb e => (sb.2 b hb).trans e) f0 f1 f3 f4 f5
    obtain ⟨o, e, c, d⟩ := id st'
    exact ⟨u, rfl, go_of (s := { s with heap := h' }) e c d (by decide) ⟨x, H, I1, ru, ⟨rfl, fun ys hy => by rw [I.list_inj hy hq]; exact hx⟩, st', fun b hb => (hf b hb).1⟩⟩
  done := by
    intro X hP hw hK hc i pins s σ H E I hf st hg
    subst hP hw hK
    obtain ⟨xs, hq, hx⟩ := hg
    obtain ⟨its, rv, p, hz⟩ := I.list hq
    obtain ⟨f0, f1, f2, f3, f4, f5⟩ := hf it (by simp)
    have hl := rv.length
    exact wpAny_pyNext_list_end (I.ok.hd hc) st p.isList (by simp; omega) fun h' eb => ⟨rfl, I.turned (t' := s.toks) (fun b o hb e => eb b o hb e) f0 f1 f3 f4 f5⟩
  self := fun _ _ _ _ _ st h => wpAny_pyIter_listiter st h
theorem turn_tuple {P : Program} {w : World} {K : PySem.W.Frag} {tg : Expr} (a it : Addr) : Turn P w K tg (Itt K a) [it] it (fun i h => h.IsTupleIter it a i) where
  mem := by simp
  obj := fun i h st b hb => by
    have e : b = it := by simpa using hb
    subst e
    obtain ⟨o, e, c, d⟩ := st
    exact ⟨o, e, fun v z => by rw [d] at z; cases z⟩
  keep := fun i h h' st k => st.at fun o e => k it (by simp) o e
  item := by
    intro X hP hw hK hc i pins s σ H E I hf st hg
    subst hP hw hK
    obtain ⟨xs, x, hq, hx⟩ := hg
    obtain ⟨its, rv, p, hz⟩ := I.tuple hq
    obtain ⟨u, hu, ru⟩ := rv.get hx
    obtain ⟨f0, f1, f2, f3, f4, f5⟩ := hf it (by simp)
    refine wpAny_pyNext_tuple_item st (show s.heap.IsTuple a its.toArray from p) (x := u) (by simpa using hu) fun h' st' sb => ?_
    have I1 : Inv X pins σ H { s with heap := h' } := I.turned (t' := s.toks) (fun b o hb e => (sb.2 b hb).trans e) f0 f1 f3 f4 f5
    obtain ⟨o, e, c, d⟩ := id st'
    exact ⟨u, rfl, go_of (s := { s with heap := h' }) e c d (by decide) ⟨x, H, I1, ru, ⟨rfl, fun ys hy => by rw [I.tuple_inj hy hq]; exact hx⟩, st', fun b hb => (hf b hb).1⟩⟩
  done := by
    intro X hP hw hK hc i pins s σ H E I hf st hg
    subst hP hw hK
    obtain ⟨xs, hq, hx⟩ := hg
    obtain ⟨its, rv, p, hz⟩ := I.tuple hq
    obtain ⟨f0, f1, f2, f3, f4, f5⟩ := hf it (by simp)
    have hl := rv.length
    exact wpAny_pyNext_tuple_end (I.ok.hd hc) st (show s.heap.IsTuple a its.toArray from p) (by simp; omega) fun h' eb => ⟨rfl, I.turned (t' := s.toks) (fun b o hb e => eb b o hb e) f0 f1 f3 f4 f5⟩
  self := fun _ _ _ _ _ st h => wpAny_pyIter_tupleiter st h
theorem turn_range {P : Program} {w : World} {K : PySem.W.Frag} {tg : Expr} (it : Addr) (lo : Int) (n : Nat) : Turn P w K tg (Itr lo n) [it] it (fun i h => IsRangeIter h it (lo + (i : Nat) * 1) ((n : Int) - (i : Nat)) 1) where
  mem := by simp
  obj := fun i h st b hb => by
    have e : b = it := by simpa using hb
    subst e
    exact ⟨_, st, fun v z => by
      have z' : Data.fields _ = Data.cell v := z
      cases z'⟩
  keep := fun i h h' st k => k it (by simp) _ st
  item := by
    intro X hP hw hK hc i pins s σ H E I hf st hg
    subst hP hw hK
    obtain ⟨f0, f1, f2, f3, f4, f5⟩ := hf it (by simp)
    have W := Walks.range (prog := X.prog) (w := X.w) (I.ok.hd hc) it lo 1 n
    refine W.item i s _ _ hg st fun v h' tk hv st' kk => ?_
    obtain ⟨t, rfl⟩ := hv
    have I1 : Inv X pins σ H { s with heap := h', toks := tk } := I.turned (fun b o hb e => kk b o (by simpa using hb) e) f0 f1 f3 f4 f5
    refine ⟨_, rfl, go_of (s := { s with heap := h', toks := tk }) (n := "range_iterator") st' rfl rfl (by decide) ⟨.int (lo + i), H, I1, ⟨t, ?_⟩, ⟨rfl, rfl⟩, st', fun b hb => (hf b hb).1⟩⟩
    rw [Int.mul_one]
  done := by
    intro X hP hw hK hc i pins s σ H E I hf st hg
    subst hP hw hK
    obtain ⟨f0, f1, f2, f3, f4, f5⟩ := hf it (by simp)
    exact wpAny_pyNext_range_end (I.ok.hd hc) st (by have : n ≤ i := hg; omega) fun h' eb => ⟨rfl, I.turned (t' := s.toks) (fun b o hb e => eb b o hb e) f0 f1 f3 f4 f5⟩
  self := fun _ _ _ _ _ st h => wpAny_pyIter_rangeiter st h
end L2
namespace L2
open PySem PySem.Spec PyProof.Rows
section
variable {X : Cx} {tg : Expr}
theorem range_it {pins : List (Addr × Obj)} {σ : St} {H : Hp} {s : Shared} {R : It → Hp → Prop} {E : Value → Shared → Prop} {lo hi : Int} {t u v : Tok} {tk : Nat} (I : Inv X pins σ H s) (h1 : -(2 ^ 62) ≤ lo) (h2 : lo < 2 ^ 62) (h3 : -(2 ^ 62) ≤ hi) (h4 : hi < 2 ^ 62)
    (q : R (Itr lo (hi - lo).toNat) H) : wpAny (model X.prog X.w) X.A (pyIter (.ref s.heap.objs.size)) (PIE X pins σ tg R) E { s with heap := s.heap.push { cls := .type "range", data := .fields #[.int lo t, .int hi u, .int 1 v] }, toks := tk } := by
  refine wpAny_pyIter_range (IsRange.new ..) (small_one h1 h2 h3 h4) ?_
  have I1 : Inv X pins σ H { s with heap := s.heap.push { cls := .type "range", data := .fields #[.int lo t, .int hi u, .int 1 v] }, toks := tk } := I.kept fun b o e => Heap.get?_push_of_some _ e
  refine ⟨(s.heap.push { cls := .type "range", data := .fields #[.int lo t, .int hi u, .int 1 v] }).objs.size, [(s.heap.push { cls := .type "range", data := .fields #[.int lo t, .int hi u, .int 1 v] }).objs.size], _, _, H, rfl,
    I1.kept (t' := tk) fun b o e => Heap.get?_push_of_some _ e, turn_range _ lo (hi - lo).toNat, ?_, fun b hb => ?_, q⟩
  · have e1 : lo + ((0 : Nat) : Int) * 1 = lo := by simp
    have e2 : (((hi - lo).toNat : Nat) : Int) - ((0 : Nat) : Int) = Builtin.Range.rangeSize lo hi 1 := by rw [rangeSize_one]; split <;> omega
    show IsRangeIter _ _ (lo + ((0 : Nat) : Int) * 1) ((((hi - lo).toNat : Nat) : Int) - ((0 : Nat) : Int)) 1
    rw [e1, e2]
    exact Heap.get?_push_size _ rfl
  · have e : b = (s.heap.push { cls := .type "range", data := .fields #[.int lo t, .int hi u, .int 1 v] }).objs.size := by simpa using hb
    subst e
    exact I1.fpOk (Nat.le_refl _) (I1.hok.fresh (Nat.le_refl _))
def iRng1 (ta : TA) : TI := fun σ H R => ta σ H fun vs H1 => ∃ j : Int, vs = [.int j] ∧ -(2 ^ 62) ≤ j ∧ j < 2 ^ 62 ∧ R (Itr 0 j.toNat) H1
def iRng2 (ta : TA) : TI := fun σ H R => ta σ H fun vs H1 => ∃ i j : Int, vs = [.int i, .int j] ∧ (-(2 ^ 62) ≤ i ∧ i < 2 ^ 62 ∧ -(2 ^ 62) ≤ j ∧ j < 2 ^ 62) ∧ R (Itr i (j - i).toNat) H1
theorem pi_range1 {a : Expr} {ta : TA} {p pos : Pos} (hg : Gl X "range") (hm : X.mg "range" = none) (ha : PA X [a] ta) (hs : starEach [a] X.env = [(false, eval a X.env)] := by rfl) : PI X tg (.Call (.Name "range" p) [a] [] pos) (iRng1 ta) := by
  intro pins s σ H R I h
  refine Call_ (ld_blt I hg hm boot_range (PyProof.Rows.callWith_type1 (thn (ha pos pins s σ H _ I h) fun us s1 ⟨vs, H1, I1, r1, q1⟩ => ?_) hs rfl))
  obtain ⟨j, e, q1, q2, q⟩ := q1
  subst e
  cases r1 with
  | cons r rr =>
    cases rr
    obtain ⟨t, rfl⟩ := r
    exact call_range_1 (range_it I1 (by omega) (by omega) q1 q2 (by simpa using q))
theorem pi_range2 {a b : Expr} {ta : TA} {p pos : Pos} (hg : Gl X "range") (hm : X.mg "range" = none) (ha : PA X [a, b] ta) (hs : starEach [a, b] X.env = [(false, eval a X.env), (false, eval b X.env)] := by rfl) (hs2 : starEach [b] X.env = [(false, eval b X.env)] := by rfl) :
    PI X tg (.Call (.Name "range" p) [a, b] [] pos) (iRng2 ta) := by
  intro pins s σ H R I h
  refine Call_ (ld_blt I hg hm boot_range (PyProof.Rows.callWith_type1 (thn (ha pos pins s σ H _ I h) fun us s1 ⟨vs, H1, I1, r1, q1⟩ => ?_) (by rw [hs, hs2]) (by rw [hs2]; rfl)))
  obtain ⟨i, j, e, ⟨q1, q2, q3, q4⟩, q⟩ := q1
  subst e
  cases r1 with
  | cons r rr =>
    cases rr with
    | cons r' rr =>
      cases rr
      obtain ⟨t, rfl⟩ := r
      obtain ⟨t', rfl⟩ := r'
      exact call_range_2 (range_it I1 q1 q2 q3 q4 q)
def tFor (wi : TI) (g : TG) (tb : TS) : TS := fun D σ H => wi σ H fun J H1 => ∃ W : Nat → Nat → St → Hp → Prop, (∃ m, W 0 m σ H1) ∧ ∀ i m σ H, W i m σ H →
  (J.stop i H ∧ D.nx σ H) ∨ (J.go i H ∧ ∃ N : St → Hp → Prop, (∀ σ' H', N σ' H' → ∃ m', m' < m ∧ W (i + 1) m' σ' H') ∧ ∀ x H', J.yld i H x H' → g x σ H' fun σ2 H2 => tb { D with nx := N, ct := N, bk := D.nx } σ2 H2)
def pinsAt (fp : List Addr) (h : Heap) : List (Addr × Obj) := fp.filterMap fun b => (h.get? b).map fun o => (b, o)
theorem mem_pinsAt {fp : List Addr} {h : Heap} {b : Addr} {o : Obj} (hb : b ∈ fp) (e : h.get? b = some o) : (b, o) ∈ pinsAt fp h := List.mem_filterMap.mpr ⟨b, hb, by rw [e]; rfl⟩
theorem of_pinsAt {fp : List Addr} {h : Heap} {p : Addr × Obj} (hp : p ∈ pinsAt fp h) : p.1 ∈ fp ∧ h.get? p.1 = some p.2 := by
  obtain ⟨b, hb, e⟩ := List.mem_filterMap.mp hp
  cases q : h.get? b with
  | none => rw [q] at e; cases e
  | some o =>
    rw [q] at e
    have e' : (b, o) = p := Option.some.inj e
    subst e'
    exact ⟨hb, q⟩
theorem Inv.pinned {pins : List (Addr × Obj)} {σ : St} {H : Hp} {s : Shared} {fp : List Addr} (I : Inv X pins σ H s) (hf : ∀ b ∈ fp, FpOk X pins H b) (ho : ∀ b ∈ fp, ∃ o, s.heap.get? b = some o ∧ ∀ v, o.data ≠ .cell v) : Inv X (pins ++ pinsAt fp s.heap) σ H s :=
  I.pins_of fun p hp => (List.mem_append.mp hp).elim (fun z => I.pin p (List.mem_append_right _ z)) fun z => by
    obtain ⟨hb, e⟩ := of_pinsAt z
    obtain ⟨f0, f1, f2, _⟩ := hf p.1 hb
    obtain ⟨o, e', d⟩ := ho p.1 hb
    rw [e] at e'; cases e'
    exact ⟨e, f0, f1, f2, d⟩
theorem Inv.unpinned {pins pl : List (Addr × Obj)} {σ : St} {H : Hp} {s : Shared} (I : Inv X (pins ++ pl) σ H s) : Inv X pins σ H s := I.pins_of fun p hp => I.pin p (List.mem_append_right _ (List.mem_append_left _ hp))
theorem ps_for {iter : Expr} {body : List Stmt} {wi : TI} {g : TG} {tb : TS} {pos : Pos} (hp : PassesOwn (model X.prog X.w) X.A X.env X.xe) (hc : X.calm = true) (hi : PI X tg iter wi) (hg : PG X tg g) (hb : PSs X body tb)
    (hs : ∀ x, foldedSetIterable iter X.env x = pure x := by intro _; rfl) : PS X (.For tg iter body [] pos) (tFor wi g tb) := by
  intro pins s σ H D I h
  refine wpAny_For (thn (hi pins s σ H _ I h) fun v s1 h1 => thn h1 fun itv s2 h2 => ?_) hs
  obtain ⟨it, fp, tn, J, H2, e, I2, T, st2, f2, W, ⟨m0, w0⟩, turn⟩ := h2
  subst e
  -- what stays true of the iterator's objects through the loop
  have stat : ∀ {H' : Hp}, (∀ b ∈ fp, H' b = none) → ∀ b ∈ fp, FpOk X pins H' b := fun hn b hb => ⟨hn b hb, (f2 b hb).2⟩
  refine codeAny_forLoop_any (fun n s' => ∃ i σ' H', Inv X pins σ' H' s' ∧ tn i s'.heap ∧ (∀ b ∈ fp, H' b = none) ∧ W i n σ' H') ?_ m0 ⟨0, σ, H2, I2, st2, fun b hb => (f2 b hb).1, w0⟩
  rintro n s3 ⟨i, σ3, H3, I3, st3, fr3, w3⟩
  rcases turn i n σ3 H3 w3 with ⟨stop, qn⟩ | ⟨go, N, hN, step⟩
  · refine wpAny_passesOwn hp (thn (T.done X rfl rfl rfl hc i pins s3 σ3 H3 X.xe I3 (stat fr3) st3 stop) fun r s4 ⟨hr, I4⟩ => ?_)
    subst hr
    exact wpAny_execs_nil ⟨σ3, H3, I4, qn⟩
  · refine wpAny_passesOwn hp (thn (T.item X rfl rfl rfl hc i pins s3 σ3 H3 X.xe I3 (stat fr3) st3 go) fun r s4 ⟨u, hr, h4⟩ => ?_)
    subst hr
    refine wpAny_passesOwn hp (thn h4 fun _ s5 ⟨x, H5, I5, r5, y5, st5, fr5⟩ => ?_)
    have I5' := I5.pinned (stat fr5) (T.obj _ _ st5)
    refine wpAny_passesOwn hp (thn (hg _ s5 σ3 H5 x u _ I5' r5 (step x H5 y5)) fun _ s6 ⟨σ6, H6, I6, q6⟩ => ?_)
    refine wpAny_passesOwn hp (thn (hb _ s6 σ6 H6 _ I6 q6) fun f s7 q7 => ?_)
    have again : ∀ {σ7 : St} {H7 : Hp}, Inv X (pins ++ pinsAt fp s5.heap) σ7 H7 s7 → N σ7 H7 → ∃ m, m < n ∧ ∃ i σ' H', Inv X pins σ' H' s7 ∧ tn i s7.heap ∧ (∀ b ∈ fp, H' b = none) ∧ W i m σ' H' := fun {σ7 H7} I7 n7 => by
      obtain ⟨m', hm, w7⟩ := hN σ7 H7 n7
      refine ⟨m', hm, i + 1, σ7, H7, I7.unpinned, T.keep _ _ _ st5 fun b hb o e => (I7.pin (b, o) (List.mem_append_right _ (List.mem_append_right _ (mem_pinsAt hb e)))).1, fun b hb => ?_, w7⟩
      obtain ⟨o, e, d⟩ := T.obj _ _ st5 b hb
      exact (I7.pin (b, o) (List.mem_append_right _ (List.mem_append_right _ (mem_pinsAt hb e)))).2.1
    cases f with
    | next => obtain ⟨σ7, H7, I7, n7⟩ := q7; exact again I7 n7
    | cont => obtain ⟨σ7, H7, I7, n7⟩ := q7; exact again I7 n7
    | brk => obtain ⟨σ7, H7, I7, q7⟩ := q7; exact ⟨σ7, H7, I7.unpinned, q7⟩
    | ret v => obtain ⟨x7, σ7, H7, I7, r7, q7⟩ := q7; exact ⟨x7, σ7, H7, I7.unpinned, r7, q7⟩
end
end L2
namespace L2
open PySem PySem.Spec PyProof.Rows
abbrev R2 := V → V → Hp → VK → Prop
def OpR (X : Cx) (f : Value → Value → Sem Value) (r : R2) : Prop :=
  ∀ (pins : List (Addr × Obj)) (s : Shared) (σ : St) (H : Hp) (x y : V) (v u : Value) (Q : VK), Inv X pins σ H s → RelV x v → RelV y u → r x y H Q →
    wpAny (model X.prog X.w) X.A (f v u) (EP X pins σ Q) X.xe s
def UnR (X : Cx) (f : Value → Sem Value) (r : V → Hp → VK → Prop) : Prop :=
  ∀ (pins : List (Addr × Obj)) (s : Shared) (σ : St) (H : Hp) (x : V) (v : Value) (Q : VK), Inv X pins σ H s → RelV x v → r x H Q →
    wpAny (model X.prog X.w) X.A (f v) (EP X pins σ Q) X.xe s
def CallR (X : Cx) (f : Value) (r : List V → Hp → VK → Prop) : Prop :=
  ∀ (pins : List (Addr × Obj)) (s : Shared) (σ : St) (H : Hp) (xs : List V) (us : List Value) (Q : VK), Inv X pins σ H s → Vals xs us → r xs H Q →
    wpAny (model X.prog X.w) X.A (call f us) (EP X pins σ Q) X.xe s
def TruR (X : Cx) (r : V → Hp → (Bool → Hp → Prop) → Prop) : Prop :=
  ∀ (pins : List (Addr × Obj)) (s : Shared) (σ : St) (H : Hp) (x : V) (v : Value) (Q : Bool → Hp → Prop), Inv X pins σ H s → RelV x v → r x H Q →
    wpAny (model X.prog X.w) X.A (truthy v) (TP X pins σ Q) X.xe s
def tOp (r : R2) (ta tb : TE) : TE := fun σ H Q => ta σ H fun x H1 => tb σ H1 fun y H2 => r x y H2 Q
def tUn (r : V → Hp → VK → Prop) (ta : TE) : TE := fun σ H Q => ta σ H fun x H1 => r x H1 Q
def rI (C : Int → Int → Prop) (g : Int → Int → V) : R2 := fun x y H Q => ∃ i j, x = .int i ∧ y = .int j ∧ C i j ∧ Q (g i j) H
def rI0 (g : Int → Int → V) : R2 := fun x y H Q => ∃ i j, x = .int i ∧ y = .int j ∧ Q (g i j) H
def rU (g : Int → V) : V → Hp → VK → Prop := fun x H Q => ∃ i, x = .int i ∧ Q (g i) H
section
variable {X : Cx} {a b c : Expr} {ta tb tc : TE} {pos : Pos}
theorem binT (ha : PE X a ta) (hb : PE X b tb) {pins : List (Addr × Obj)} {s : Shared} {σ : St} {H : Hp} {R : V → V → Hp → Prop} (I : Inv X pins σ H s)
    (h : ta σ H fun x H1 => tb σ H1 fun y H2 => R x y H2) {Q : Value → Shared → Prop} {f : Value → Value → Sem Value}
    (hf : ∀ v u s2 x y H2, Inv X pins σ H2 s2 → RelV x v → RelV y u → R x y H2 → wpAny (model X.prog X.w) X.A (f v u) Q X.xe s2) :
    wpAny (model X.prog X.w) X.A (eval a X.env) (fun v s₁ => wpAny (model X.prog X.w) X.A (eval b X.env) (fun u s₂ => wpAny (model X.prog X.w) X.A (f v u) Q X.xe s₂) X.xe s₁) X.xe s := by
  refine thn (ha pins s σ H _ I h) fun v s1 ⟨x, H1, I1, r1, q1⟩ => ?_
  refine thn (hb pins s1 σ H1 _ I1 q1) fun u s2 ⟨y, H2, I2, r2, q2⟩ => ?_
  exact hf v u s2 x y H2 I2 r1 r2 q2
theorem pe_op {op : Operator} {r : R2} (ho : OpR X (binaryOp op) r) (ha : PE X a ta) (hb : PE X b tb) : PE X (.BinOp a op b pos) (tOp r ta tb) := by
  intro pins s σ H Q I h
  exact wpAny_BinOp (binT ha hb I h fun v u s2 x y H2 I2 rx ry q => ho pins s2 σ H2 x y v u Q I2 rx ry q)
theorem pe_un {op : UnaryOp} {r : V → Hp → VK → Prop} (ho : UnR X (unaryOp op) r) (ha : PE X a ta) : PE X (.UnaryOp op a pos) (tUn r ta) := by
  intro pins s σ H Q I h
  exact UnaryOp_ (thn (ha pins s σ H _ I h) fun v s1 ⟨x, H1, I1, r1, q1⟩ => ho pins s1 σ H1 x v Q I1 r1 q1)
theorem opI {f : Value → Value → Sem Value} {C : Int → Int → Prop} {g : Int → Int → Int}
    (rule : ∀ (i j : Int) (t u : Tok) (s : Shared) (Q : Value → Shared → Prop) (E : Value → Shared → Prop), C i j → Q (.int (g i j) s.toks) { s with toks := s.toks + 1 } → wpAny (model X.prog X.w) X.A (f (.int i t) (.int j u)) Q E s) :
    OpR X f (rI C fun i j => .int (g i j)) := by
  intro pins s σ H x y v u Q I rx ry h
  obtain ⟨i, j, rfl, rfl, hc, q⟩ := h
  obtain ⟨t, rfl⟩ := rx
  obtain ⟨t', rfl⟩ := ry
  exact rule i j t t' s _ _ hc ⟨.int (g i j), H, I.tok _, ⟨_, rfl⟩, q⟩
theorem opI0 {f : Value → Value → Sem Value} {g : Int → Int → Int}
    (rule : ∀ (i j : Int) (t u : Tok) (s : Shared) (Q : Value → Shared → Prop) (E : Value → Shared → Prop), Q (.int (g i j) s.toks) { s with toks := s.toks + 1 } → wpAny (model X.prog X.w) X.A (f (.int i t) (.int j u)) Q E s) :
    OpR X f (rI0 fun i j => .int (g i j)) := by
  intro pins s σ H x y v u Q I rx ry h
  obtain ⟨i, j, rfl, rfl, q⟩ := h
  obtain ⟨t, rfl⟩ := rx
  obtain ⟨t', rfl⟩ := ry
  exact rule i j t t' s _ _ ⟨.int (g i j), H, I.tok _, ⟨_, rfl⟩, q⟩
theorem opB0 {f : Value → Value → Sem Value} {g : Int → Int → Bool}
    (rule : ∀ (i j : Int) (t u : Tok) (s : Shared) (Q : Value → Shared → Prop) (E : Value → Shared → Prop), Q (.bool (g i j)) s → wpAny (model X.prog X.w) X.A (f (.int i t) (.int j u)) Q E s) :
    OpR X f (rI0 fun i j => .bl (g i j)) := by
  intro pins s σ H x y v u Q I rx ry h
  obtain ⟨i, j, rfl, rfl, q⟩ := h
  obtain ⟨t, rfl⟩ := rx
  obtain ⟨t', rfl⟩ := ry
  exact rule i j t t' s _ _ ⟨.bl (g i j), H, I, rfl, q⟩
def CMul (i j : Int) : Prop := (-(2 ^ 64) < i ∧ i < 2 ^ 64) ∨ (-(2 ^ 64) < j ∧ j < 2 ^ 64)
theorem CMul.ok {i j : Int} (h : CMul i j) : IntMulOk i j := by
  rcases h with ⟨h1, h2⟩ | ⟨h1, h2⟩
  · exact .of_left (intBits_le_64 h1 h2)
  · exact .of_right (intBits_le_64 h1 h2)
theorem two_pow_nn (k : Nat) : (0 : Int) ≤ 2 ^ k := by
  rw [two_pow_cast]
  exact Int.natCast_nonneg _
theorem op_add : OpR X (binaryOp .Add) (rI0 fun i j => .int (i + j)) := opI0 fun _ _ _ _ _ _ _ q => add_int q
theorem op_sub : OpR X (binaryOp .Sub) (rI0 fun i j => .int (i - j)) := opI0 fun _ _ _ _ _ _ _ q => sub_int q
theorem op_mod : OpR X (binaryOp .Mod) (rI (fun _ j => 0 < j) fun i j => .int (i % j)) := opI fun i j _ _ _ _ _ hc q => by
  have h1 : (0 : Int) < j := hc
  exact mod_int' (by omega) (by rw [Int.fmod_eq_emod_of_nonneg i (by omega)]; exact q)
theorem op_shr : OpR X (binaryOp .RShift) (rI (fun _ j => 0 ≤ j) fun i j => .int (i / 2 ^ j.toNat)) := opI fun i j _ _ _ _ _ hc q =>
  rshift_int hc (by rw [Int.fdiv_eq_ediv_of_nonneg i (two_pow_nn _)]; exact q)
theorem op_and : OpR X (binaryOp .BitAnd) (rI0 fun i j => .int (Builtin.bitAnd i j)) := opI0 fun _ _ _ _ _ _ _ q => and_int q
theorem op_or : OpR X (binaryOp .BitOr) (rI0 fun i j => .int (Builtin.bitOr i j)) := opI0 fun _ _ _ _ _ _ _ q => or_int q
theorem op_xor : OpR X (binaryOp .BitXor) (rI0 fun i j => .int (Builtin.bitXor i j)) := opI0 fun _ _ _ _ _ _ _ q => xor_int q
theorem iop_add : OpR X (inplaceOp .Add) (rI0 fun i j => .int (i + j)) := opI0 fun _ _ _ _ _ _ _ q => iadd_int q
theorem iop_sub : OpR X (inplaceOp .Sub) (rI0 fun i j => .int (i - j)) := opI0 fun _ _ _ _ _ _ _ q => isub_int q
theorem iop_mod : OpR X (inplaceOp .Mod) (rI (fun _ j => 0 < j) fun i j => .int (i % j)) := opI fun i j _ _ _ _ _ hc q => by
  have h1 : (0 : Int) < j := hc
  exact imod_int (by omega) (by rw [Int.fmod_eq_emod_of_nonneg i (by omega)]; exact q)
theorem iop_shr : OpR X (inplaceOp .RShift) (rI (fun _ j => 0 ≤ j) fun i j => .int (i / 2 ^ j.toNat)) := opI fun i j _ _ _ _ _ hc q =>
  irshift_int hc (by rw [Int.fdiv_eq_ediv_of_nonneg i (two_pow_nn _)]; exact q)
theorem iop_and : OpR X (inplaceOp .BitAnd) (rI0 fun i j => .int (Builtin.bitAnd i j)) := opI0 fun _ _ _ _ _ _ _ q => iand_int q
theorem iop_or : OpR X (inplaceOp .BitOr) (rI0 fun i j => .int (Builtin.bitOr i j)) := opI0 fun _ _ _ _ _ _ _ q => ior_int q
theorem iop_xor : OpR X (inplaceOp .BitXor) (rI0 fun i j => .int (Builtin.bitXor i j)) := opI0 fun _ _ _ _ _ _ _ q => ixor_int q
theorem unI {f : Value → Sem Value} {g : Int → Int}
    (rule : ∀ (i : Int) (t : Tok) (s : Shared) (Q : Value → Shared → Prop) (E : Value → Shared → Prop), Q (.int (g i) s.toks) { s with toks := s.toks + 1 } → wpAny (model X.prog X.w) X.A (f (.int i t)) Q E s) :
    UnR X f (rU fun i => .int (g i)) := by
  intro pins s σ H x v Q I rx h
  obtain ⟨i, rfl, q⟩ := h
  obtain ⟨t, rfl⟩ := rx
  exact rule i t s _ _ ⟨.int (g i), H, I.tok _, ⟨_, rfl⟩, q⟩
theorem un_neg : UnR X (unaryOp .USub) (rU fun i => .int (-i)) := unI fun _ _ _ _ _ q => neg_int q
end
section
variable {X : Cx} {a b c : Expr} {ta tb tc : TE} {pos : Pos}
theorem fin_bl {pins : List (Addr × Obj)} {σ : St} {H : Hp} {s : Shared} {Q : VK} {k k' : Bool} (I : Inv X pins σ H s) (q : Q (.bl k) H) (e : k = k') : EP X pins σ Q (.bool k') s := by
  subst e
  exact ⟨.bl k, H, I, rfl, q⟩
theorem op_lt : OpR X (compareOp .Lt) (rI0 fun i j => .bl (decide (i < j))) := opB0 fun _ _ _ _ _ _ _ q => lt_int q
theorem op_le : OpR X (compareOp .LtE) (rI0 fun i j => .bl (decide (i ≤ j))) := opB0 fun _ _ _ _ _ _ _ q => le_int q
theorem op_gt : OpR X (compareOp .Gt) (rI0 fun i j => .bl (decide (j < i))) := opB0 fun _ _ _ _ _ _ _ q => gt_int q
theorem op_ge : OpR X (compareOp .GtE) (rI0 fun i j => .bl (decide (j ≤ i))) := opB0 fun _ _ _ _ _ _ _ q => ge_int q
theorem op_isN : OpR X (compareOp .Is) (fun x y H Q => y = .non ∧ Q (.bl (decide (x = .non))) H) := by
  intro pins s σ H x y v u Q I rx ry h
  obtain ⟨rfl, q⟩ := h
  cases ry
  refine is_none_gen (fin_bl I q ?_)
  cases x <;> first
    | (cases rx; rfl)
    | (obtain ⟨t, rfl⟩ := rx; rfl)
theorem op_notN : OpR X (compareOp .IsNot) (fun x y H Q => y = .non ∧ Q (.bl (!decide (x = .non))) H) := by
  intro pins s σ H x y v u Q I rx ry h
  obtain ⟨rfl, q⟩ := h
  cases ry
  refine isnot_none_gen (fin_bl I q ?_)
  cases x <;> first
    | (cases rx; rfl)
    | (obtain ⟨t, rfl⟩ := rx; rfl)
theorem OpR.or {f : Value → Value → Sem Value} {r r' : R2} (h : OpR X f r) (h' : OpR X f r') : OpR X f (fun x y H Q => r x y H Q ∨ r' x y H Q) := by
  intro pins s σ H x y v u Q I rx ry q
  rcases q with q | q
  · exact h pins s σ H x y v u Q I rx ry q
  · exact h' pins s σ H x y v u Q I rx ry q
theorem pe_cmpR {op : CmpOp} {r : R2} (ho : OpR X (compareOp op) r) (ha : PE X a ta) (hb : PE X b tb) (hm : behindInMarks op b = false) : PE X (.Compare a [op] [b] pos) (tOp r ta tb) := by
  intro pins s σ H Q I h
  exact wpAny_Compare1 (binT ha hb I h fun v u s2 x y H2 I2 rx ry q => ho pins s2 σ H2 x y v u Q I2 rx ry q) hm
def tTest (t : TE) : TT := fun σ H Q => t σ H fun x H' => ∃ k, x = .bl k ∧ Q k H'
theorem pt_cmpR {op : CmpOp} {r : R2} (ho : OpR X (compareOp op) r) (ha : PE X a ta) (hb : PE X b tb) (hm : behindInMarks op b = false) : PT X (.Compare a [op] [b] pos) (tTest (tOp r ta tb)) := by
  intro pins s σ H Q I h
  refine wpAny_isTrue_Compare1 (thn (ha pins s σ H _ I h) fun v s1 ⟨x, H1, I1, r1, q1⟩ => thn (hb pins s1 σ H1 _ I1 q1) fun u s2 ⟨y, H2, I2, r2, q2⟩ =>
    thn (ho pins s2 σ H2 x y v u _ I2 r1 r2 q2) fun c s3 ⟨z, H3, I3, r3, k, e, q3⟩ => ?_) hm
  subst e
  cases r3
  exact wpAny_truthy_bool ⟨H3, I3, q3⟩
def tChain (r r' : R2) (ta tb tc : TE) : TE := fun σ H Q => ta σ H fun x H1 => tb σ H1 fun y H2 => r x y H2 fun z H3 => ∃ k, z = .bl k ∧
  (if k = true then tc σ H3 fun w' H4 => r' y w' H4 Q else Q (.bl false) H3)
theorem pe_chain {op op' : CmpOp} {r r' : R2} (ho : OpR X (compareOp op) r) (ho' : OpR X (compareOp op') r') (ha : PE X a ta) (hb : PE X b tb) (hc : PE X c tc)
    (hm : lastMarks [op, op'] [b, c] = false := by with_unfolding_all rfl) : PE X (.Compare a [op, op'] [b, c] pos) (tChain r r' ta tb tc) := by
  intro pins s σ H Q I h
  refine Compare_chain (thn (ha pins s σ H _ I h) fun v s1 ⟨x, H1, I1, r1, q1⟩ => chain_link (thn (hb pins s1 σ H1 _ I1 q1) fun u s2 ⟨y, H2, I2, r2, q2⟩ =>
    thn (ho pins s2 σ H2 x y v u _ I2 r1 r2 q2) fun d s3 ⟨z, H3, I3, r3, k, e, q3⟩ => ?_)) hm
  subst e
  cases r3
  refine wpAny_truthy_bool ?_
  cases k with
  | false => exact ite_ff ⟨.bl false, H3, I3, rfl, q3⟩
  | true => exact ite_tt (chain_last (thn (hc pins s3 σ H3 _ I3 q3) fun w' s4 ⟨z', H4, I4, r4, q4⟩ => ho' pins s4 σ H4 y z' u w' Q I4 r2 r4 q4))
theorem pt_chain {op op' : CmpOp} {r r' : R2} (ho : OpR X (compareOp op) r) (ho' : OpR X (compareOp op') r') (ha : PE X a ta) (hb : PE X b tb) (hc : PE X c tc)
    (hm : lastMarks [op, op'] [b, c] = false := by with_unfolding_all rfl) : PT X (.Compare a [op, op'] [b, c] pos) (tTest (tChain r r' ta tb tc)) := by
  intro pins s σ H Q I h
  refine isTrue_chain (thn (ha pins s σ H _ I h) fun v s1 ⟨x, H1, I1, r1, q1⟩ => test_link (thn (hb pins s1 σ H1 _ I1 q1) fun u s2 ⟨y, H2, I2, r2, q2⟩ =>
    thn (ho pins s2 σ H2 x y v u _ I2 r1 r2 q2) fun d s3 ⟨z, H3, I3, r3, k, e, q3⟩ => ?_)) hm
  subst e
  cases r3
  refine wpAny_truthy_bool ?_
  cases k with
  | false =>
    obtain ⟨k', e', q'⟩ := q3
    cases e'
    exact ite_ff ⟨H3, I3, q'⟩
  | true =>
    refine ite_tt (test_last (thn (hc pins s3 σ H3 _ I3 q3) fun w' s4 ⟨z', H4, I4, r4, q4⟩ => thn (ho' pins s4 σ H4 y z' u w' _ I4 r2 r4 q4) fun d' s5 ⟨z2, H5, I5, r5, k2, e2, q5⟩ => ?_))
    subst e2
    cases r5
    exact wpAny_truthy_bool ⟨H5, I5, q5⟩
def TruV (K : PySem.W.Frag) (x : V) (H : Hp) (k : Bool) : Prop :=
  match x with
  | .non => k = false
  | .bl b => k = b
  | .int i => k = (i != 0)
  | .str y => y.length ≤ sizeLine ∧ k = ((y.length : Int) != 0)
  | .byt y => y.size ≤ sizeLine ∧ k = ((y.size : Int) != 0)
  | .ref p => (∃ xs, SqL K H p xs ∧ k = !xs.isEmpty) ∨ (∃ xs, SqT K H p xs ∧ k = !xs.isEmpty) ∨ ∃ kvs, H p = some (.dK kvs) ∧ k = !kvs.isEmpty
  | _ => False
theorem isEmpty_kv {κ : Type} {kvs : List (κ × V)} {vs : List (κ × Value)} (r : KV kvs vs) : (!vs.isEmpty) = !kvs.isEmpty := by
  cases r <;> rfl
theorem isEmpty_of {xs : List V} {its : List Value} (r : Vals xs its) : (!its.toArray.isEmpty) = !xs.isEmpty := by
  cases r <;> simp
theorem line63 : (sizeLine : Nat) < 2 ^ 63 := by rw [sizeLine_eq]; decide
theorem tru_ok : TruR X (fun x H Q => ∃ k, TruV X.K x H k ∧ Q k H) := by
  intro pins s σ H x v Q I rx h
  obtain ⟨k, e, q⟩ := h
  have hl := line63
  have hs : sizeLine = 16777216 := sizeLine_eq
  cases x with
  | non =>
    cases rx
    have e' : k = false := e
    subst e'
    exact truthy_none ⟨H, I, q⟩
  | bl b =>
    cases rx
    have e' : k = b := e
    subst e'
    exact wpAny_truthy_bool ⟨H, I, q⟩
  | int i =>
    obtain ⟨t, rfl⟩ := rx
    have e' : k = (i != 0) := e
    subst e'
    exact PySem.P.truthy_int ⟨H, I, q⟩
  | str y =>
    obtain ⟨t, rfl⟩ := rx
    obtain ⟨hy, e'⟩ : y.length ≤ sizeLine ∧ k = ((y.length : Int) != 0) := e
    subst e'
    exact PySem.P.truthy_str (by omega) ⟨H, I.tok _, q⟩
  | byt y =>
    obtain ⟨t, rfl⟩ := rx
    obtain ⟨hy, e'⟩ : y.size ≤ sizeLine ∧ k = ((y.size : Int) != 0) := e
    subst e'
    exact PySem.W.truthy_bytes (by omega) ⟨H, I.tok _, q⟩
  | ref p =>
    cases rx
    have e' : (∃ xs, SqL X.K H p xs ∧ k = !xs.isEmpty) ∨ (∃ xs, SqT X.K H p xs ∧ k = !xs.isEmpty) ∨ ∃ kvs, H p = some (.dK kvs) ∧ k = !kvs.isEmpty := e
    rcases e' with ⟨xs, hx, e'⟩ | ⟨xs, hx, e'⟩ | ⟨kvs, hx, e'⟩
    · subst e'
      obtain ⟨its, r, pl, hz⟩ := I.list hx
      have hlen := r.length
      exact wpAny_truthy_list pl.isList (by simp only [List.size_toArray]; omega) ⟨H, I.tok _, by rw [isEmpty_of r]; exact q⟩
    · subst e'
      obtain ⟨its, r, pl, hz⟩ := I.tuple hx
      have hlen := r.length
      exact truthy_tuple pl (by simp only [List.size_toArray]; omega) ⟨H, I.tok _, by rw [isEmpty_of r]; exact q⟩
    · subst e'
      obtain ⟨hz, hS, vs, r, m⟩ : kvs.length ≤ sizeLine ∧ (p == sysModules) = false ∧ ∃ vs, KV kvs vs ∧ s.heap.DictOf (mixKind X.prog X.w) p vs := I.hok p _ hx
      have hlen : kvs.length = vs.length := Paired.length r
      exact wpAny_truthy_dict hS m (by omega) ⟨H, I.tok _, by rw [isEmpty_kv r]; exact q⟩
  | _ => exact (show False from e).elim
theorem pt_truth (ha : PE X a ta) (he : ∀ whole, isTrue a X.env whole = (do let v ← whole; standAt a.pos; holding [v] (truthy v))) :
    PT X a (fun σ H Q => ta σ H fun x H' => ∃ k, TruV X.K x H' k ∧ Q k H') := by
  intro pins s σ H Q I h
  exact isTrue_plain (thn (ha pins s σ H _ I h) fun v s1 ⟨x, H1, I1, r1, q1⟩ => tru_ok pins s1 σ H1 x v Q I1 r1 q1) (he _)
theorem op_add_str : OpR X (binaryOp .Add) (fun x y H Q => ∃ i j, x = .str i ∧ y = .str j ∧ i.length + j.length ≤ sizeLine ∧ Q (.str (i ++ j)) H) := by
  intro pins s σ H x y v u Q I rx ry h
  obtain ⟨i, j, rfl, rfl, hz, q⟩ := h
  obtain ⟨t, rfl⟩ := rx
  obtain ⟨t', rfl⟩ := ry
  exact add_str (fun t' tk => ⟨.str (i ++ j), H, I.tok _, ⟨_, rfl⟩, q⟩) hz
theorem iop_add_str : OpR X (inplaceOp .Add) (fun x y H Q => ∃ i j, x = .str i ∧ y = .str j ∧ i.length + j.length ≤ sizeLine ∧ Q (.str (i ++ j)) H) := by
  intro pins s σ H x y v u Q I rx ry h
  obtain ⟨i, j, rfl, rfl, hz, q⟩ := h
  obtain ⟨t, rfl⟩ := rx
  obtain ⟨t', rfl⟩ := ry
  exact iadd_str (fun t' tk => ⟨.str (i ++ j), H, I.tok _, ⟨_, rfl⟩, q⟩) hz
theorem vals1 {x : V} {us : List Value} (r : Vals [x] us) : ∃ u, us = [u] ∧ RelV x u := by
  cases r with
  | cons r1 r2 => cases r2; exact ⟨_, rfl, r1⟩
theorem vals2 {x y : V} {us : List Value} (r : Vals [x, y] us) : ∃ u w', us = [u, w'] ∧ RelV x u ∧ RelV y w' := by
  cases r with
  | cons r1 r2 =>
    cases r2 with
    | cons r3 r4 => cases r4; exact ⟨_, _, rfl, r1, r3⟩
theorem call_abs : CallR X (.builtin "abs") (fun xs H Q => ∃ i, xs = [.int i] ∧ Q (.int (if i < 0 then -i else i)) H) := by
  intro pins s σ H xs us Q I r h
  obtain ⟨i, rfl, q⟩ := h
  obtain ⟨u, rfl, t, rfl⟩ := vals1 r
  exact call_abs_int fun u tk => ⟨.int (if i < 0 then -i else i), H, I.tok _, ⟨_, rfl⟩, q⟩
theorem call_max2 (hc : X.calm = true) : CallR X (.builtin "max") (fun xs H Q => ∃ i j, xs = [.int i, .int j] ∧ Q (.int (if j > i then j else i)) H) := by
  intro pins s σ H xs us Q I r h
  obtain ⟨i, j, rfl, q⟩ := h
  obtain ⟨u, w', rfl, ⟨t, rfl⟩, ⟨t', rfl⟩⟩ := vals2 r
  refine max_two_ints (I.ok.hd hc) fun h' tk k => ⟨_, H, I.kept k, ?_, q⟩
  by_cases hj : j > i
  · rw [if_pos hj, if_pos hj]; exact ⟨_, rfl⟩
  · rw [if_neg hj, if_neg hj]; exact ⟨_, rfl⟩
theorem call_min2 (hc : X.calm = true) : CallR X (.builtin "min") (fun xs H Q => ∃ i j, xs = [.int i, .int j] ∧ Q (.int (if j < i then j else i)) H) := by
  intro pins s σ H xs us Q I r h
  obtain ⟨i, j, rfl, q⟩ := h
  obtain ⟨u, w', rfl, ⟨t, rfl⟩, ⟨t', rfl⟩⟩ := vals2 r
  refine min_two_ints (I.ok.hd hc) fun h' tk k => ⟨_, H, I.kept k, ?_, q⟩
  by_cases hj : j < i
  · rw [if_pos hj, if_pos hj]; exact ⟨_, rfl⟩
  · rw [if_neg hj, if_neg hj]; exact ⟨_, rfl⟩
theorem call_int1 : CallR X (.type "int") (fun xs H Q => (∃ i, xs = [.int i] ∧ Q (.int i) H) ∨ ∃ k, xs = [.bl k] ∧ Q (.int (if k then 1 else 0)) H) := by
  intro pins s σ H xs us Q I r h
  rcases h with ⟨i, rfl, q⟩ | ⟨k, rfl, q⟩
  · obtain ⟨u, rfl, t, rfl⟩ := vals1 r
    exact call_int_int ⟨.int i, H, I, ⟨_, rfl⟩, q⟩
  · obtain ⟨u, rfl, r1⟩ := vals1 r
    cases r1
    exact call_int_bool ⟨.int (if k then 1 else 0), H, I.tok _, ⟨_, rfl⟩, q⟩
def LenV (K : PySem.W.Frag) (x : V) (H : Hp) (n : Nat) : Prop :=
  match x with
  | .str y => y.length ≤ sizeLine ∧ n = y.length
  | .byt y => y.size ≤ sizeLine ∧ n = y.size
  | .ref p => (∃ xs, SqL K H p xs ∧ n = xs.length) ∨ ∃ xs, SqT K H p xs ∧ n = xs.length
  | _ => False
theorem call_len : CallR X (.builtin "len") (fun xs H Q => ∃ x n, xs = [x] ∧ LenV X.K x H n ∧ Q (.int n) H) := by
  intro pins s σ H xs us Q I r h
  obtain ⟨x, n, rfl, e, q⟩ := h
  obtain ⟨u, rfl, rx⟩ := vals1 r
  have hl := line63
  have hs : sizeLine = 16777216 := sizeLine_eq
  cases x with
  | str y =>
    obtain ⟨t, rfl⟩ := rx
    obtain ⟨hy, e'⟩ : y.length ≤ sizeLine ∧ n = y.length := e
    subst e'
    exact len_str (by omega) ⟨.int _, H, I.tok _, ⟨_, rfl⟩, q⟩
  | byt y =>
    obtain ⟨t, rfl⟩ := rx
    obtain ⟨hy, e'⟩ : y.size ≤ sizeLine ∧ n = y.size := e
    subst e'
    exact PySem.W.len_bytes (by omega) ⟨.int _, H, I.tok _, ⟨_, rfl⟩, q⟩
  | ref p =>
    cases rx
    have e' : (∃ xs, SqL X.K H p xs ∧ n = xs.length) ∨ ∃ xs, SqT X.K H p xs ∧ n = xs.length := e
    rcases e' with ⟨xs, hx, e'⟩ | ⟨xs, hx, e'⟩
    · subst e'
      obtain ⟨its, r', pl, hz⟩ := I.list hx
      have hlen := r'.length
      exact Calls.call_len_list pl.isList (by simp only [List.size_toArray]; omega) ⟨.int xs.length, H, I.tok _, ⟨_, by simp only [List.size_toArray]; rw [hlen]⟩, q⟩
    · subst e'
      obtain ⟨its, r', pl, hz⟩ := I.tuple hx
      have hlen := r'.length
      exact len_tuple pl (by simp only [List.size_toArray]; omega) ⟨.int xs.length, H, I.tok _, ⟨_, by simp only [List.size_toArray]; rw [hlen]⟩, q⟩
  | _ => exact (show False from e).elim
end
end L2
namespace L2
open PySem PySem.Spec PyProof.Rows
structure ObjM (h : Heap) (x dx C : Addr) (mA : Str → Option Value) : Prop where
  obj : h.get? x = some (PySem.W.instObj C dx)
  ns : h.Ns1 dx mA
  ne : dx ≠ x
theorem lookIn_ns {h : Heap} {dx : Addr} {mA : Str → Option Value} (n : h.Ns1 dx mA) : ∃ od, h.get? dx = some od ∧ ∀ name, PySem.W.lookIn name od = some (mA name) := by
  obtain ⟨o, es, ep, ho, hd, hk, _, hm⟩ := n
  refine ⟨o, ho, fun name => ?_⟩
  have e := hm name
  unfold nsFind findBy at e
  rw [← Array.find?_toList] at e
  unfold PySem.W.lookIn
  rw [hd]
  dsimp only
  split
  · rename_i y q
    rw [q] at e
    exact congrArg some e
  · rename_i q
    rw [q] at e
    have a : es.toList.any (·.refKey) = false := by
      rw [List.any_eq_false]
      intro y hy
      obtain ⟨z, t, hkey⟩ := hk y (Array.mem_toList_iff.mp hy)
      simp [DictEntry.refKey, hkey]
    have a' : ¬ es.toList.any (·.refKey) = true := by rw [a]; exact Bool.false_ne_true
    rw [if_neg a']
    exact congrArg some e
theorem ObjM.look {h : Heap} {x dx C : Addr} {mA : Str → Option Value} (I : ObjM h x dx C mA) : ∃ od, PySem.W.InstAt h x (PySem.W.instObj C dx) C (some od) ∧ ∀ name, PySem.W.lookIn name od = some (mA name) :=
  let ⟨od, ho, hl⟩ := lookIn_ns I.ns
  ⟨od, ⟨I.obj, rfl, rfl, ho⟩, hl⟩
section
variable {prog : Program} {w : World} {A : Around} {E : Value → Shared → Prop} {s : Shared} {K : PySem.W.Frag} {x dx C f : Addr} {mA : Str → Option Value} {name : Str} {v : Value}
theorem get_meth {pl : Sem Bool} {Q : Value × List Value → Shared → Prop} (X : K.In s.heap) (I : ObjM s.heap x dx C mA) (hg : PySem.W.plainGet K C name = true)
    (hf : PySem.W.findIn K (.ref C) name = some (some (.ref f))) (ht : PySem.W.isFn K (.ref f) = true) (hv : mA name = none) (h : Q (.ref f, [.ref x]) s) :
    wpAny (model prog w) A (getMethod (.ref x) name pl) Q E s := by
  obtain ⟨od, J, hl⟩ := I.look
  exact PySem.W.method_fn X J (PySem.W.plainGet_of hg).1 (PySem.W.plainGet_of hg).2 hf (beq_iff_eq.mp ht) (by show (PySem.W.lookIn name od).map (·.isSome) = some false; rw [hl, hv]; rfl) h
theorem make_map0 {R : Result → Shared → Prop} (X : K.In s.heap) (hm : PySem.W.makesIn K C = true)
    (hi : PySem.W.findIn K (.ref C) "__init__" = some (some (.builtin "object.__init__")))
    (hb : ∀ self, PySem.W.Looks (model prog w) s.heap (bindSpecial (.builtin "object.__init__") self) (.builtin "object.__init__", [self]))
    (h : codeAny (model prog w) (A.under (.builtin "type.__call__" ⟨[.ref C], []⟩)) (.call (.builtin "object.__init__") ⟨[.ref (s.heap.objs.size + 1)], []⟩) (PySem.W.InitBack (s.heap.objs.size + 1) R)
      { s with heap := (s.heap.push PySem.W.emptyDict).push (PySem.W.instObj C s.heap.objs.size) }) :
    codeAny (model prog w) A (.call (.ref C) ⟨[], []⟩) R s := by
  obtain ⟨hh, g, d, t, os⟩ := s
  exact PySem.W.make_core (PySem.W.makes_of X hm) (PySem.W.looks_findIn X hi) hb (.inr ⟨rfl, rfl⟩) h
end
theorem RelO.some_of {v : V} {o : Option Value} (r : RelO (some v) o) : ∃ u, o = some u ∧ RelV v u := by
  cases o with
  | none => exact (show False from r).elim
  | some u => exact ⟨u, rfl, r⟩
theorem RelO.none_of {o : Option Value} (r : RelO none o) : o = none := by
  cases o with
  | none => rfl
  | some u => exact (show False from r).elim
section
variable {P : Program} {w : World} {H H' : Hp} {h h' : Heap} {a C dx : Addr} {fs fs' : List (Str × V)}
theorem ins_get (hok : HOk P w H h) (e : H a = some (.ins C dx fs)) : ∃ mA, ObjM h a dx C mA ∧ (∀ f, RelO (fs.lookup f) (mA f)) ∧ PySem.Within mA (fs.map (·.1)) ∧ fs.length ≤ 1000 ∧ H dx = some (.own a) := by
  obtain ⟨d, z, ne, ob, mA, n, r, q⟩ := (show ObjOk P w H h a (.ins C dx fs) from hok a _ e)
  exact ⟨mA, ⟨ob, n, ne⟩, r, q, z, d⟩
end
structure Cls (K : PySem.W.Frag) (C : Addr) : Prop where
  pg : PySem.W.plainGet K C Str.empty = true
  hd : PySem.W.hasDictIn K C = true
  po : PySem.W.plainOver K C = true
  sa : PySem.W.findIn K (.ref C) "__setattr__" = some (some (.builtin "object.__setattr__"))
theorem Cls.get {K : PySem.W.Frag} {C : Addr} (c : Cls K C) (f : Str) : PySem.W.plainGet K C f = true := c.pg
structure Con (K : PySem.W.Frag) (C : Addr) (f : Str) (v : V) (u : Value) : Prop where
  at_ : PySem.W.findIn K (.ref C) f = some (some u)
  rel : RelV v u
  get : PySem.W.specialIn K u "__get__" = some none
  cp : PySem.W.copiedNames.contains f = false
structure Meth (K : PySem.W.Frag) (C : Addr) (m : Str) (f : Addr) : Prop where
  at_ : PySem.W.findIn K (.ref C) m = some (some (.ref f))
  fn : PySem.W.isFn K (.ref f) = true
  kp : PySem.W.keepIn K (.ref f) = true
section
variable {X : Cx} {pins : List (Addr × Obj)} {σ : St} {H : Hp} {s : Shared} {a C dx : Addr} {fs : List (Str × V)} {f : Str} {v : V} {A : Around} {E : Value → Shared → Prop}
theorem getmeth_ok {m : Str} {g : Addr} {pl : Sem Bool} {Q : Value × List Value → Shared → Prop} (I : Inv X pins σ H s) (e : H a = some (.ins C dx fs)) (c : Cls X.K C) (k : Meth X.K C m g) (l : fs.lookup m = none)
    (h : Q (.ref g, [.ref a]) s) : wpAny (model X.prog X.w) A (getMethod (.ref a) m pl) Q E s := by
  obtain ⟨mA, O, r, _, _, _⟩ := ins_get I.hok e
  have hn : mA m = none := RelO.none_of (by rw [← l]; exact r m)
  exact get_meth I.kIn O (c.get m) k.at_ k.fn hn h
theorem Inv.made (I : Inv X pins σ H s) : Inv X pins σ (upd (upd H s.heap.objs.size (.own (s.heap.objs.size + 1))) (s.heap.objs.size + 1) (.ins C s.heap.objs.size []))
    { s with heap := (s.heap.push PySem.W.emptyDict).push (PySem.W.instObj C s.heap.objs.size) } := by
  have e1 : (s.heap.push PySem.W.emptyDict).get? s.heap.objs.size = some PySem.W.emptyDict := Heap.get?_push_size s.heap rfl
  have e2 : ((s.heap.push PySem.W.emptyDict).push (PySem.W.instObj C s.heap.objs.size)).get? (s.heap.objs.size + 1) = some (PySem.W.instObj C s.heap.objs.size) := by
    have := Heap.get?_push_size (s.heap.push PySem.W.emptyDict) (o := PySem.W.instObj C s.heap.objs.size) rfl
    rwa [Heap.size_push] at this
  have e3 : (s.heap.push PySem.W.emptyDict).Ns s.heap.objs.size (fun _ => none) := ⟨PySem.W.emptyDict, #[], _, e1, rfl, (fun e he => absurd he (by simp)), fun _ => rfl⟩
  have I1 := I.laid (a := s.heap.objs.size) (o := .own (s.heap.objs.size + 1)) (h' := s.heap.push PySem.W.emptyDict) (t' := s.toks) (fun b u q => Heap.get?_push_of_some _ q) (Nat.le_refl _) ⟨_, e1⟩
  refine I1.laid (a := s.heap.objs.size + 1) (o := .ins C s.heap.objs.size []) (t' := s.toks) (fun b u q => Heap.get?_push_of_some _ q) (Nat.le_of_eq (Heap.size_push _ _)) ?_
  have ne : s.heap.objs.size ≠ s.heap.objs.size + 1 := Nat.ne_of_lt (Nat.lt_succ_self _)
  refine ⟨by rw [upd_ne ne, upd_same], Nat.zero_le _, ne, e2, fun _ => none, (Heap.Ns1.of_empty e3).at fun o q => Heap.get?_push_of_some _ q, fun _ => True.intro, fun y hy => absurd rfl hy⟩
end
section
variable {X : Cx} {o e value : Expr} {f : Str} {pos pos' tpos : Pos} {ta tv : TE}
end
section
variable {X : Cx} {pins : List (Addr × Obj)} {σ : St} {H : Hp} {s : Shared} {A : Around} {E : Value → Shared → Prop} {Q : Value → Shared → Prop} {c : Value} {b : Bool}
inductive TyOf (K : PySem.W.Frag) (H : Hp) : V → Value → Prop where
  | non : TyOf K H .non (.type "NoneType")
  | bl (x : Bool) : TyOf K H (.bl x) (.type "bool")
  | int (i : Int) : TyOf K H (.int i) (.type "int")
  | str (x : Str) : TyOf K H (.str x) (.type "str")
  | flt (x : UInt64) : TyOf K H (.flt x) (.type "float")
  | lst {a : Addr} {xs : List V} (e : H a = some (.lst xs)) : TyOf K H (.ref a) (.type "list")
  | frz {a : Addr} {o : Obj} {xs : List V} (e : H a = some (.frz o (.lst xs))) : TyOf K H (.ref a) (.type "list")
  | tup {a : Addr} {xs : List V} (e : H a = some (.tup xs)) : TyOf K H (.ref a) (.type "tuple")
  | dK {a : Addr} {kvs : List (Key × V)} (e : H a = some (.dK kvs)) : TyOf K H (.ref a) (.type "dict")
  | dT {a : Addr} {kvs : List (List Key × V)} (e : H a = some (.dT kvs)) : TyOf K H (.ref a) (.type "dict")
  | ins {a C dx : Addr} {fs : List (Str × V)} (e : H a = some (.ins C dx fs)) (cl : Cls K C) (ha : PySem.W.findIn K (.ref C) "__class__" = some (some (.builtin "object.__class__")))
      (hn : PySem.W.specialIn K (.builtin "object.__class__") "__get__" = some (some (.builtin "getset_descriptor.__get__"))) (htk : PySem.W.takesIn K (.builtin "object.__class__") = some true)
      (hm : PySem.W.mroIn K C (.type "object") = some true) : TyOf K H (.ref a) (.ref C)
end
end L2
namespace L2
open PySem PySem.Spec PyProof.Rows
structure Room (k : Nat) (A : Around) : Prop where
  hd : A.handled = none
  dp : A.depth + 3 * k + 5 < recursionLimit
  un : A.units + 16 * k + 200 < cLine
theorem Room.mono {j k : Nat} {A : Around} (r : Room k A) (h : j ≤ k) : Room j A := ⟨r.hd, by have := r.dp; omega, by have := r.un; omega⟩
theorem Room.deeper {k : Nat} {A : Around} (r : Room (k + 1) A) (env : Env) : Room k (A.deeper env) :=
  ⟨r.hd, by have := r.dp; show A.depth + 1 + 3 * k + 5 < _; omega, by have := r.un; show A.units + 3 + 16 * k + 200 < _; omega⟩
theorem Room.in1 {k : Nat} {A : Around} (r : Room (k + 1) A) : Room k A.in1 :=
  ⟨r.hd, by have := r.dp; show A.depth + 3 * k + 5 < _; omega, by have := r.un; show A.units + 1 + 16 * k + 200 < _; omega⟩
theorem Room.depth {k : Nat} {A : Around} (r : Room k A) : A.depth < recursionLimit := by have := r.dp; omega
theorem Room.units {k : Nat} {A : Around} (r : Room k A) : A.units + 64 < cLine := by have := r.un; omega
def tNil : TA := fun _ H Q => Q [] H
def tCons (ta : TE) (tr : TA) : TA := fun σ H Q => ta σ H fun x H1 => tr σ H1 fun xs H2 => Q (x :: xs) H2
section
variable {X : Cx} {e : Expr} {es : List Expr} {te : TE} {t : TA} {pos : Pos}
theorem pa_nil : PA X [] tNil := fun _ _ _ _ H Q I h => Calls.spliced_nil ⟨[], H, I, .nil, h⟩
theorem pa_cons (ha : PE X e te) (hr : PA X es t) (hs : starEach (e :: es) X.env = (false, eval e X.env) :: starEach es X.env := by rfl) : PA X (e :: es) (tCons te t) := by
  intro pos pins s σ H Q I h
  rw [hs]
  show wpAny _ _ (spliced ((false, eval e X.env) :: backTo pos (starEach es X.env))) _ _ s
  refine Calls.spliced_cons (thn (ha pins s σ H _ I h) fun u s1 ⟨x, H1, I1, r1, q1⟩ => ?_)
  exact thn (hr pos pins s1 σ H1 _ I1 q1) fun us s2 ⟨xs, H2, I2, r2, q2⟩ => ⟨x :: xs, H2, I2, .cons r1 r2, q2⟩
def tTup (t : TA) : TE := fun σ H Q => t σ H fun xs H1 => xs.length ≤ sizeLine ∧ ∀ p, H1 p = none → Q (.ref p) (upd H1 p (.tup xs))
def tLst (t : TA) : TE := fun σ H Q => t σ H fun xs H1 => xs.length ≤ sizeLine ∧ ∀ p, H1 p = none → Q (.ref p) (upd H1 p (.lst xs))
theorem pe_tup {x1} (h : PA X es t) : PE X (.Tuple es x1 pos) (tTup t) := by
  intro pins s σ H Q I hq
  refine wpAny_Tuple_spliced (thn (h pos pins s σ H _ I hq) fun us s1 ⟨xs, H1, I1, r, z, q⟩ => ⟨by rw [← r.length]; exact z, ?_⟩)
  have hf : H1 s1.heap.objs.size = none := I1.hok.fresh (Nat.le_refl _)
  refine ⟨.ref s1.heap.objs.size, upd H1 s1.heap.objs.size (.tup xs), I1.laid (t' := s1.toks) (fun b u e => Heap.get?_push_of_some _ e) (Nat.le_refl _) ?_, rfl, q _ hf⟩
  exact ⟨z, us, r, ⟨_, Heap.get?_push_size _ rfl, rfl, _, rfl⟩⟩
theorem pe_lst (h : PA X es t) : PE X (.List es pos) (tLst t) := by
  intro pins s σ H Q I hq
  refine wpAny_List_spliced (thn (h pos pins s σ H _ I hq) fun us s1 ⟨xs, H1, I1, r, z, q⟩ => ⟨by rw [← r.length]; exact z, ?_⟩)
  have hf : H1 s1.heap.objs.size = none := I1.hok.fresh (Nat.le_refl _)
  refine ⟨.ref s1.heap.objs.size, upd H1 s1.heap.objs.size (.lst xs), I1.laid (t' := s1.toks) (fun b u e => Heap.get?_push_of_some _ e) (Nat.le_refl _) ?_, rfl, q _ hf⟩
  exact ⟨z, us, 0, r, Heap.get?_push_size _ rfl⟩
end
abbrev Sp := List V → Hp → VK → XK → Prop
abbrev CXT := List Env → Hp → Shared → XK → Value → Shared → Prop
structure Env0 (P : Program) (w : World) (K : PySem.W.Frag) (mg : Str → Option Value) (base : Heap) (A : Around) (outer : List Env) (s : Shared) (H : Hp) : Prop where
  frames : A.frames = some outer
  mod : Mod K mg base
  bs : ∀ b o, base.get? b = some o → s.heap.get? b = some o ∧ H b = none
  bsz : base.objs.size ≤ s.heap.objs.size
  funs : s.heap.FunFrames base outer
  frf : ∀ b ∈ frs outer, H b = none
  hok : HOk P w H s.heap
  bare : True
def CE (outer : List Env) (P : Program) (w : World) (H : Hp) (s : Shared) (Q : VK) (u : Value) (s' : Shared) : Prop :=
  ∃ v H', s'.os = s.os ∧ GG s s' ∧ Un (frs outer) [] H H' s.heap s'.heap ∧ HOk P w H' s'.heap ∧ RelV v u ∧ Q v H'
def CR (CX : CXT) (outer : List Env) (P : Program) (w : World) (H : Hp) (s : Shared) (Q : VK) (E : XK) (r : Result) (s' : Shared) : Prop :=
  match r with
  | .ok (.ret u) => CE outer P w H s Q u s'
  | .ok _ => False
  | .error e => CX outer H s E e s'
structure FnOk (P : Program) (w : World) (K : PySem.W.Frag) (mg : Str → Option Value) (base : Heap) (CX : CXT) (k : Nat) (f : Addr) (fd : FuncData) (ps : List Str) (sp : Sp) : Prop where
  len : ∀ vs H Q E, sp vs H Q E → vs.length = ps.length
  run : ∀ (A : Around) (outer : List Env) (s : Shared) (H : Hp) (args : Args) (us : List Value) (vs : List V) (Q : VK) (E : XK), Room k A → Env0 P w K mg base A outer s H → BindsTo s fd args (ps.zip us) → Vals vs us → sp vs H Q E →
    codeAny (model P w) A (.call (.ref f) args) (CR CX outer P w H s Q E) s
theorem FnOk.mono {P : Program} {w : World} {K : PySem.W.Frag} {mg : Str → Option Value} {base : Heap} {CX : CXT} {j k : Nat} {f : Addr} {fd : FuncData} {ps : List Str} {sp : Sp} (F : FnOk P w K mg base CX j f fd ps sp) (h : j ≤ k) :
    FnOk P w K mg base CX k f fd ps sp := ⟨F.len, fun A outer s H args us vs Q E hr => F.run A outer s H args us vs Q E (hr.mono h)⟩
theorem FnOk.imp {P : Program} {w : World} {K : PySem.W.Frag} {mg : Str → Option Value} {base : Heap} {CX : CXT} {k : Nat} {f : Addr} {fd : FuncData} {ps : List Str} {sp sp' : Sp} (F : FnOk P w K mg base CX k f fd ps sp)
    (h : ∀ vs H Q E, sp' vs H Q E → sp vs H Q E) : FnOk P w K mg base CX k f fd ps sp' :=
  ⟨fun vs H Q E q => F.len vs H Q E (h _ _ _ _ q), fun A outer s H args us vs Q E hr he hb hv hs => F.run A outer s H args us vs Q E hr he hb hv (h _ _ _ _ hs)⟩
theorem Env0.in1 {P : Program} {w : World} {K : PySem.W.Frag} {mg : Str → Option Value} {base : Heap} {A : Around} {outer : List Env} {s : Shared} {H : Hp} (e : Env0 P w K mg base A outer s H) :
    Env0 P w K mg base A.in1 outer s H := ⟨e.frames, e.mod, e.bs, e.bsz, e.funs, e.frf, e.hok, e.bare⟩
section
variable {X : Cx} {pins : List (Addr × Obj)} {σ : St} {H : Hp} {s s' : Shared}
theorem Inv.env0 (I : Inv X pins σ H s) : Env0 X.prog X.w X.K X.mg X.base X.A X.stack s H :=
  ⟨I.ok.frames, I.ok.mod, I.bs, Nat.le_trans I.ok.bsz I.sz, I.stack, I.stkFree, I.hok, trivial⟩
theorem Inv.after {Q : VK} {u : Value} (I : Inv X pins σ H s) (h : CE X.stack X.prog X.w H s Q u s') : EP X pins σ Q u s' := by
  obtain ⟨v, H', os, bare, un, hok, r, q⟩ := h
  obtain ⟨hh, g, d, t, os'⟩ := s'
  obtain rfl : os' = s.os := os
  exact ⟨v, H', I.call (h' := hh) (g' := g) (d' := d) (t' := t) (ch := []) un hok bare (fun b z => absurd z (by simp)), r, q⟩
end
def Binds (K : PySem.W.Frag) (fd : FuncData) (ps : List Str) (ds : List Value) : Prop :=
  ∀ (s : Shared) (us : List Value), K.In s.heap → (us ++ ds).length = ps.length → BindsTo s fd ⟨us, []⟩ (ps.zip (us ++ ds))
theorem Binds.all {K : PySem.W.Frag} {fd : FuncData} {ps : List Str} (h : ∀ us : List Value, us.length = ps.length → bindArgs fd ⟨us, []⟩ = pure (ps.zip us)) : Binds K fd ps [] := fun s us _ hl => by
  rw [List.append_nil] at hl ⊢
  exact .of_eq (h us hl)
section
variable {X : Cx} {CX : CXT} {k : Nat} {f C : Addr} {fd : FuncData} {ps : List Str} {sp : Sp} {dvs : List V} {ds : List Value} {E : XK} {x m : Str} {p pos apos : Pos} {e o : Expr} {es : List Expr} {ta : TE} {t : TA}
structure Mk (K : PySem.W.Frag) (C f : Addr) : Prop where
  makes : PySem.W.makesIn K C = true
  init : PySem.W.findIn K (.ref C) "__init__" = some (some (.ref f))
  fn : PySem.W.isFn K (.ref f) = true
  kp : PySem.W.keepIn K (.ref C) = true
end
def PK (X : Cx) (kws : List Keyword) (t : TA) : Prop :=
  ∀ (pos : Pos) (pins : List (Addr × Obj)) (s : Shared) (σ : St) (H : Hp) (Q : List V → Hp → Prop), Inv X pins σ H s → t σ H Q → wpAny (model X.prog X.w) X.A (evalAll ((backToKw pos (keywordEach kws X.env)).map (·.2))) (AP X pins σ Q) X.xe s
section
variable {X : Cx} {CX : CXT} {k : Nat} {f C : Addr} {fd : FuncData} {ps ks : List Str} {sp : Sp} {E : XK} {x m : Str} {p pos apos kpos : Pos} {e o : Expr} {es : List Expr} {kws : List Keyword} {te ta : TE} {t tk : TA} {nm : Option Str}
theorem pk_nil : PK X [] tNil := fun _ _ _ _ H Q I h => wpAny_evalAll_nil ⟨[], H, I, .nil, h⟩
theorem pk_cons (ha : PE X e te) (hr : PK X kws t) : PK X (⟨nm, e, kpos⟩ :: kws) (tCons te t) := by
  intro pos pins s σ H Q I h
  show wpAny _ _ (evalAll ((do let v ← eval e X.env; standAt pos; pure v) :: (backToKw pos (keywordEach kws X.env)).map (·.2))) _ _ s
  refine wpAny_evalAll_cons (wpAny_bind (thn (ha pins s σ H _ I h) fun u s1 ⟨x, H1, I1, r1, q1⟩ => wpAny_bind (wpAny_standAt (wpAny_pure ?_))))
  exact thn (hr pos pins s1 σ H1 _ I1 q1) fun us s2 ⟨xs, H2, I2, r2, q2⟩ => ⟨x :: xs, H2, I2, .cons r1 r2, q2⟩
structure KBinds (K : PySem.W.Frag) (fd : FuncData) (ps ks : List Str) (g : List Value → List Value → List Value) (gV : List V → List V → List V) : Prop where
  to : ∀ (s : Shared) (us ws : List Value), K.In s.heap → (g us ws).length = ps.length → BindsTo s fd ⟨us, ks.zip ws⟩ (ps.zip (g us ws))
  rel : ∀ {vs : List V} {us : List Value} {zs : List V} {ws : List Value}, Vals vs us → Vals zs ws → Vals (gV vs zs) (g us ws)
variable {g : List Value → List Value → List Value} {gV : List V → List V → List V}
end
structure FnScope (N P : List Str) (sc : Scope) : Prop where
  kind : sc.kind = .function
  co : sc.isCoroutine = false
  gen : sc.isGenerator = false
  nd : N.Nodup
  pre : N.take P.length = P
  par : ∀ x ∈ P, sc.names.lookup x = some .local ∨ sc.names.lookup x = some .cell
  nofree : ∀ y ∈ sc.names, y.2 ≠ .free
theorem bindL_out {kindOf : Str → Option NameKind} {x : Str} : ∀ {binds : List (Str × Value)} {m : Str → Option Value}, (∀ v, (x, v) ∉ binds) → bindL kindOf binds m x = m x
  | [], _, _ => rfl
  | (n, v) :: r, m, h => by
    unfold bindL
    rw [bindL_out fun w hw => h w (List.mem_cons_of_mem _ hw)]
    split
    · have : x ≠ n := by rintro rfl; exact h v List.mem_cons_self
      simp [this]
    · rfl
theorem bindC_out {kindOf : Str → Option NameKind} {x : Str} : ∀ {binds : List (Str × Value)} {m : Str → Option Value}, (∀ v, (x, v) ∉ binds) → bindC kindOf binds m x = m x
  | [], _, _ => rfl
  | (n, v) :: r, m, h => by
    unfold bindC
    rw [bindC_out fun w hw => h w (List.mem_cons_of_mem _ hw)]
    split
    · rfl
    · have : x ≠ n := by rintro rfl; exact h v List.mem_cons_self
      simp [this]
theorem bindL_get {kindOf : Str → Option NameKind} {x : Str} {v : Value} : ∀ {P : List Str} {vs : List Value} {i : Nat} {m : Str → Option Value}, P.Nodup → P[i]? = some x → vs[i]? = some v → kindOf x = some .local →
    bindL kindOf (P.zip vs) m x = some v
  | [], _, _, _, _, h, _, _ => by simp at h
  | _ :: _, [], _, _, _, _, h, _ => by simp at h
  | p :: P, w :: vs, 0, m, nd, h1, h2, hk => by
    simp at h1 h2; subst h1; subst h2
    show bindL kindOf ((p, w) :: P.zip vs) m p = _
    unfold bindL
    rw [bindL_out fun v hv => (List.nodup_cons.mp nd).1 (List.of_mem_zip hv).1, if_pos hk]
    simp
  | p :: P, w :: vs, i + 1, m, nd, h1, h2, hk => by
    show bindL kindOf ((p, w) :: P.zip vs) m x = _
    unfold bindL
    exact bindL_get (i := i) (List.nodup_cons.mp nd).2 (by simpa using h1) (by simpa using h2) hk
theorem bindC_get {kindOf : Str → Option NameKind} {x : Str} {v : Value} : ∀ {P : List Str} {vs : List Value} {i : Nat} {m : Str → Option Value}, P.Nodup → P[i]? = some x → vs[i]? = some v → kindOf x ≠ some .local →
    bindC kindOf (P.zip vs) m x = some v
  | [], _, _, _, _, h, _, _ => by simp at h
  | _ :: _, [], _, _, _, _, h, _ => by simp at h
  | p :: P, w :: vs, 0, m, nd, h1, h2, hk => by
    simp at h1 h2; subst h1; subst h2
    show bindC kindOf ((p, w) :: P.zip vs) m p = _
    unfold bindC
    rw [bindC_out fun v hv => (List.nodup_cons.mp nd).1 (List.of_mem_zip hv).1, if_neg hk]
    simp
  | p :: P, w :: vs, i + 1, m, nd, h1, h2, hk => by
    show bindC kindOf ((p, w) :: P.zip vs) m x = _
    unfold bindC
    exact bindC_get (i := i) (List.nodup_cons.mp nd).2 (by simpa using h1) (by simpa using h2) hk
def start (N : List Str) (vs : List V) : St := vs.map some ++ List.replicate (N.length - vs.length) none
def cxOf (CX : CXT) (P : Program) (w : World) (K : PySem.W.Frag) (mg : Str → Option Value) (base : Heap) (N : List Str) (qual : Str) (scope : Scope) (f : Addr) (cd : Value) (A : Around) (outer : List Env) (s : Shared) (H : Hp) (E : XK) : Cx where
  prog := P
  w := w
  K := K
  mg := mg
  base := base
  A := A.deeper (envOfC qual scope s.heap.objs.size f cd)
  N := N
  s_0 := s
  H_0 := H
  env := envOfC qual scope s.heap.objs.size f cd
  outer := outer
  stack := envOfC qual scope s.heap.objs.size f cd :: outer
  ex := []
  calm := true
  fn := fun _ => true
  pn := []
  xe := fun e s' => wpAny (model P w) (A.deeper (envOfC qual scope s.heap.objs.size f cd)) (leaving (envOfC qual scope s.heap.objs.size f cd) e) (fun _ s'' => CX outer H s E e s'') (fun e' s'' => CX outer H s E e' s'') s'
theorem cell_has {sc : Scope} {n : Nat} {x : Str} (h : sc.names.lookup x = some .cell) : ∃ c, (cellsFrom n sc.names []).lookup x = some c := by
  have q := PySem.W.cellsFrom_some sc.names n [] (.inl h)
  exact Option.isSome_iff_exists.mp q
theorem inv_start {CX : CXT} {P : Program} {w : World} {K : PySem.W.Frag} {mg : Str → Option Value} {base : Heap} {N ps : List Str} {qual : Str} {scope : Scope} {f : Addr} {cd : Value} {A : Around} {outer : List Env} {s s1 : Shared} {H : Hp} {E : XK} {us : List Value} {vs : List V}
    (S : FnScope N ps scope) (hd : A.handled = none) (e0 : Env0 P w K mg base A outer s H) (hl : vs.length = ps.length) (r : Vals vs us)
    (x : InCallC s s.heap.objs.size (bindL (envOfC qual scope s.heap.objs.size f cd).kindOf (ps.zip us) fun _ => none) (cellsFrom (s.heap.objs.size + 1) scope.names []) (bindC (envOfC qual scope s.heap.objs.size f cd).kindOf (ps.zip us) fun _ => none) s1) :
    Inv (cxOf CX P w K mg base N qual scope f cd A outer s H E) [] (start N vs) H s1 := by
  have hpl : ps.length ≤ N.length := by have := congrArg List.length S.pre; rw [List.length_take] at this; omega
  obtain ⟨h1, tk, rfl, hk⟩ := x.done
  have noA : ∀ b : Addr, b ∉ (cxOf CX P w K mg base N qual scope f cd A outer s H E).ex := fun b z => absurd (show b ∈ ([] : List Addr) from z) (by simp)
  refine ⟨⟨e0.mod, S.kind, rfl, rfl, Nat.le_refl _, fun y z c h1 h2 => ?_, fun y hy => ?_, fun y c _ h => ?_, fun _ => hd, Around.frames_deeper e0.frames, .inr ⟨rfl, rfl⟩, fun b z => absurd z (noA b), e0.bs, e0.bsz, fun b _ _ => noA b, fun b z => absurd z (noA b), e0.funs, e0.frf⟩,
    rfl, .same rfl rfl, Un.kept hk, ⟨_, x.toInCall.ns, fun i y v h1 h2 h3 => ?_⟩, fun y c h => ⟨_, x.cell y c h⟩, e0.hok.fresh (Nat.le_refl _), fun y c h => ?_, fun p hp => absurd (show p ∈ ([] : List (Addr × Obj)) from hp) (by simp), e0.hok.kept hk, ?_⟩
  · exact name_of_addr x.apart (PySem.mem_of_lookup h1) (PySem.mem_of_lookup h2)
  · have hy : scope.names.lookup y = some .cell ∨ scope.names.lookup y = some .free := hy
    rcases hy with hy | hy
    · exact cell_has hy
    · exact absurd rfl (S.nofree _ (PySem.mem_of_lookup hy))
  · exact Nat.le_of_lt (x.above y c (PySem.mem_of_lookup h))
  · have hi : i < vs.length := by
      unfold start at h2
      by_cases hi : i < vs.length
      · exact hi
      · rw [List.getElem?_append_right (by simpa using hi)] at h2
        rw [List.getElem?_replicate] at h2
        split at h2 <;> cases h2
    have ha : vs[i]? = some v := by
      unfold start at h2
      rw [List.getElem?_append_left (by simpa using hi), List.getElem?_map] at h2
      cases e : vs[i]? with
      | none => rw [e] at h2; cases h2
      | some a => rw [e] at h2; cases h2; rfl
    obtain ⟨u, hu, rv⟩ := r.get ha
    have hp : ps[i]? = some y := by
      rw [← S.pre, List.getElem?_take_of_lt (by omega)]; exact h1
    have ndP : ps.Nodup := by rw [← S.pre]; exact S.nd.sublist (List.take_sublist _ _)
    refine ⟨u, rv, ?_⟩
    rcases S.par y (List.mem_of_getElem? hp) with k | k
    · exact .inl ⟨k, bindL_get ndP hp hu k⟩
    · obtain ⟨c, e⟩ := cell_has (n := s.heap.objs.size + 1) k
      refine .inr ⟨.inl k, c, e, ?_⟩
      have q := x.cell y c e
      rw [bindC_get ndP hp hu (by show scope.names.lookup y ≠ _; rw [k]; decide)] at q
      exact q
  · exact e0.hok.fresh (Nat.le_of_lt (x.above y c (PySem.mem_of_lookup h)))
  · unfold start
    show _ = N.length
    rw [List.length_append, List.length_map, List.length_replicate]
    omega
theorem fn_of {CX : CXT} {P : Program} {w : World} {K : PySem.W.Frag} {mg : Str → Option Value} {base : Heap} {k : Nat} {f : Addr} {name qual : Str} {params : Arguments} {body : List Stmt} {scope : Scope} {dV kV doc pm cdv ct oc : Value} {an od : Option Addr}
    {osl : Array (Option Value)} {N ps : List Str} {sp : Sp} (lk : K.lookup f = some ⟨oc, od, .func (PySem.W.fnOf name qual params body scope dV kV doc pm an cdv ct), osl⟩) (hcd : PySem.W.codeIn K cdv qual = true) (S : FnScope N ps scope)
    (len : ∀ vs H Q E, sp vs H Q E → vs.length = ps.length)
    (hbody : ∀ (A : Around) (outer : List Env) (s : Shared) (H : Hp) (vs : List V) (Q : VK) (E : XK), Room k (A.deeper (envOfC qual scope s.heap.objs.size f cdv)) → sp vs H Q E →
      ∃ t, PSs (cxOf CX P w K mg base N qual scope f cdv A outer s H E) body t ∧ t { nx := fun _ H' => Q .non H', rt := Q } (start N vs) H) :
    FnOk P w K mg base CX (k + 1) f (PySem.W.fnOf name qual params body scope dV kV doc pm an cdv ct) ps sp := by
  refine ⟨len, fun A outer s H args us vs Q E hr e0 hb r hsp => ?_⟩
  have hl := len _ _ _ _ hsp
  have KX : K.In s.heap := e0.mod.kin.keeps fun b o e => (e0.bs b o e).1
  have lim : s.heap.NoLimit := e0.mod.nolimit.keeps fun b o e => (e0.bs b o e).1
  have hkind : ∀ y ∈ ps.zip us, scope.names.lookup y.1 = some .local ∨ (scope.names.lookup y.1 = some .cell ∧ ((cellsFrom (s.heap.objs.size + 1) scope.names []).lookup y.1).isSome = true) := fun ⟨n, v⟩ hy => by
    rcases S.par n (List.of_mem_zip hy).1 with q | q
    · exact .inl q
    · exact .inr ⟨q, PySem.W.cellsFrom_some _ _ _ (.inl q)⟩
  refine codeAny_call_function hr.depth (KX _ _ lk) rfl S.co S.gen rfl (PySem.W.codeRec_of KX hcd) (hb _ _ _ _ ?_)
  refine wpAny_newFunctionEnv_cells S.kind hkind fun env he s1 x => ?_
  subst he
  refine ⟨lim.keeps x.toInCall.keep, codeAny_func ?_⟩
  obtain ⟨t, ht, hq⟩ := hbody A outer s H vs Q E (hr.deeper _) hsp
  have I : Inv (cxOf CX P w K mg base N qual scope f cdv A outer s H E) [] (start N vs) H s1 := inv_start S hr.hd e0 hl r x
  refine wpAny_mono (ht [] s1 (start N vs) H _ I hq) (fun fl s' hs => ?_) fun e s' hs => hs
  have fin : ∀ {σ' : St} {H' : Hp} {v : V} {u : Value}, Inv (cxOf CX P w K mg base N qual scope f cdv A outer s H E) [] σ' H' s' → RelV v u → Q v H' → CE outer P w H s Q u s' :=
    fun {σ' H' v u} J rv q => ⟨v, H', J.os, J.bare, J.base, J.hok, rv, q⟩
  cases fl with
  | ret u =>
    obtain ⟨v, σ', H', J, rv, q⟩ := hs
    exact fin J rv q
  | next =>
    obtain ⟨σ', H', J, q⟩ := hs
    exact fin (v := V.non) (u := Value.none) J rfl q
  | brk =>
    obtain ⟨_, _, _, q⟩ := hs
    exact False.elim q
  | cont =>
    obtain ⟨_, _, _, q⟩ := hs
    exact False.elim q
end L2
namespace L2
open PySem PySem.Spec PyProof.Rows
section
variable {X : Cx} {x : Str} {p pos : Pos} {e : Expr} {es : List Expr} {t : TA} {id T : String} {r : List V → Hp → VK → Prop}
def tCB (r : List V → Hp → VK → Prop) (t : TA) : TE := fun σ H Q => t σ H fun vs H1 => r vs H1 Q
theorem pe_callB (hc : CallR X (.builtin id) r) (hg : Gl X x) (hm : X.mg x = none) (hv : bootBuiltins x = some (.builtin id)) (ha : PA X (e :: es) t) (hn : x ≠ "__name__" := by decide) (hdb : (x == ("__debug__" : Str)) = false := by decide)
    (he : starEach (e :: es) X.env = (false, eval e X.env) :: starEach es X.env := by rfl) (hpl : (backTo pos (starEach es X.env)).any (·.1) = false := by rfl) : PE X (.Call (.Name x p) (e :: es) [] pos) (tCB r t) := by
  intro pins s σ H Q I h
  refine wpAny_Call_Name_kw (ld_blt I hg hm hv ?_ hn hdb)
  exact PyProof.Rows.callWith_builtin1 (thn (ha pos pins s σ H _ I h) fun us s1 ⟨vs, H1, I1, r1, q1⟩ => hc pins s1 σ H1 vs us Q I1 r1 q1) he hpl
theorem pe_callTy (hc : CallR X (.type T) r) (hg : Gl X x) (hm : X.mg x = none) (hv : bootBuiltins x = some (.type T)) (ha : PA X (e :: es) t) (hn : x ≠ "__name__" := by decide) (hdb : (x == ("__debug__" : Str)) = false := by decide)
    (he : starEach (e :: es) X.env = (false, eval e X.env) :: starEach es X.env := by rfl) (hpl : (backTo pos (starEach es X.env)).any (·.1) = false := by rfl) : PE X (.Call (.Name x p) (e :: es) [] pos) (tCB r t) := by
  intro pins s σ H Q I h
  refine wpAny_Call_Name_kw (ld_blt I hg hm hv ?_ hn hdb)
  exact PyProof.Rows.callWith_type1 (thn (ha pos pins s σ H _ I h) fun us s1 ⟨vs, H1, I1, r1, q1⟩ => hc pins s1 σ H1 vs us Q I1 r1 q1) he hpl
end
end L2
namespace HT
open PySem PyProof.Rows
section
open PySem.SeqAt
open PySem.AutoSeq1 (wpAny_loadPart')
open PySem.MeetsSeq PySem.MeetsSeq2 PySem.MeetsSeq3
end
section
variable {prog : Program} {w : World} {A : Around} {E : Value → Shared → Prop} {s : Shared}
def sIx (n d : Nat) : Option Int → Nat
  | none => d
  | some v => if v < 0 then (v + (n : Int)).toNat else min v.toNat n
theorem sIx_le (n d : Nat) (hd : d ≤ n) (o : Option Int) : sIx n d o ≤ n := by
  cases o with
  | none => exact hd
  | some v =>
    show (if v < 0 then (v + (n : Int)).toNat else min v.toNat n) ≤ n
    by_cases hv : v < 0
    · rw [if_pos hv]; omega
    · rw [if_neg hv]; exact Nat.min_le_right _ _
end
end HT
namespace L2
open PySem PySem.Spec PyProof.Rows
abbrev TO := St → Hp → (Option Int → Hp → Prop) → Prop
def PO (X : Cx) (e : Option Expr) (t : TO) : Prop :=
  ∀ (pins : List (Addr × Obj)) (s : Shared) (σ : St) (H : Hp) (Q : Option Int → Hp → Prop), Inv X pins σ H s → t σ H Q →
    wpAny (model X.prog X.w) X.A (evalPart e X.env) (fun u s' => ∃ o H', Inv X pins σ H' s' ∧ IsPart u o ∧ Q o H') X.xe s
def tNoPart : TO := fun _ H Q => Q none H
section
variable {X : Cx} {e : Expr} {te : TE} {lo hi : Option Expr} {tl th : TO} {pos p2 : Pos}
theorem po_none : PO X none tNoPart := by
  intro pins s σ H Q I h
  rw [evalPart_none]
  exact wpAny_pure ⟨none, H, I, .none, h⟩
def SlR (X : Cx) (r : V → Option Int → Option Int → Hp → VK → Prop) : Prop :=
  ∀ (pins : List (Addr × Obj)) (s : Shared) (σ : St) (H : Hp) (x : V) (v vl vu : Value) (lo hi : Option Int) (sl : Addr) (Q : VK), Inv X pins σ H s → RelV x v → s.heap.IsSliceOf sl vl vu .none → IsPart vl lo → IsPart vu hi → r x lo hi H Q →
    ∃ T id, typeLookup (.type T) "__getitem__" = pure (some (.builtin id)) ∧ s.TypeIs v T ∧ wpAny (model X.prog X.w) X.A (getItem v (.ref sl)) (EP X pins σ Q) X.xe s
theorem SlR.or {r r' : V → Option Int → Option Int → Hp → VK → Prop} (h : SlR X r) (h' : SlR X r') : SlR X (fun x lo hi H Q => r x lo hi H Q ∨ r' x lo hi H Q) := by
  intro pins s σ H x v vl vu lo hi sl Q I rx hs pl pu q
  rcases q with q | q
  · exact h pins s σ H x v vl vu lo hi sl Q I rx hs pl pu q
  · exact h' pins s σ H x v vl vu lo hi sl Q I rx hs pl pu q
def tSl (r : V → Option Int → Option Int → Hp → VK → Prop) (te : TE) (tl th : TO) : TE := fun σ H Q => te σ H fun x H1 => tl σ H1 fun l H2 => th σ H2 fun u H3 => r x l u H3 Q
theorem pe_slice {r : V → Option Int → Option Int → Hp → VK → Prop} (hr : SlR X r) (he : PE X e te) (hl : PO X lo tl) (hu : PO X hi th) : PE X (.Subscript e (.Slice lo hi none p2) pos) (tSl r te tl th) := by
  intro pins s σ H Q I h
  refine Subscript_ (thn (he pins s σ H _ I h) fun v s1 ⟨x, H1, I1, r1, q1⟩ => ?_)
  refine wpAny_Slice (thn (hl pins s1 σ H1 _ I1 q1) fun vl s2 ⟨l, H2, I2, pl, q2⟩ => thn (hu pins s2 σ H2 _ I2 q2) fun vu s3 ⟨u, H3, I3, pu, q3⟩ => ?_)
  rw [evalPart_none]
  refine wpAny_pure ?_
  have I4 : Inv X pins σ H3 { s3 with heap := s3.heap.push { cls := .type "slice", data := .fields #[vl, vu, .none] } } := I3.kept (t' := s3.toks) fun b ob q => Heap.get?_push_of_some _ q
  obtain ⟨T, id, hT, ht, hg⟩ := hr pins { s3 with heap := s3.heap.push { cls := .type "slice", data := .fields #[vl, vu, .none] } } σ H3 x v vl vu l u s3.heap.objs.size Q I4 r1 (Heap.IsSliceOf.new ..) pl pu q3
  show wpAny (model X.prog X.w) X.A (subscriptTail e (.Slice lo hi none p2) v (.ref s3.heap.objs.size)) (EP X pins σ Q) X.xe { s3 with heap := s3.heap.push { cls := .type "slice", data := .fields #[vl, vu, .none] } }
  exact tail_any (ops := [.ref s3.heap.objs.size, v]) ht hT hg (by with_unfolding_all rfl)
def cutV (xs : List V) (lo hi : Option Int) : List V := (xs.drop (HT.sIx xs.length 0 lo)).take (HT.sIx xs.length xs.length hi - HT.sIx xs.length 0 lo)
theorem cutV_length (xs : List V) (lo hi : Option Int) : (cutV xs lo hi).length ≤ xs.length := by
  unfold cutV
  rw [List.length_take, List.length_drop]
  omega
end
end L2
namespace L2
open PySem PySem.Spec PyProof.Rows
def ixN (n : Nat) (i : Int) : Option Nat := if 0 ≤ i then (if i < n then some i.toNat else none) else if -(n : Int) ≤ i then some (i + n).toNat else none
def atI {α : Type} (xs : List α) (i : Int) : Option α := (ixN xs.length i).bind fun j => xs[j]?
theorem ixN_seq {n : Nat} {i : Int} {j : Nat} (h : ixN n i = some j) : seqIndex? i n = some j ∧ j < n ∧ -(n : Int) ≤ i ∧ i < n := by
  unfold ixN at h
  by_cases h0 : 0 ≤ i
  · rw [if_pos h0] at h
    by_cases h1 : i < n
    · rw [if_pos h1] at h
      have e : i.toNat = j := Option.some.inj h
      exact ⟨by rw [seqIndex_of h0 h1, e], by omega, by omega, h1⟩
    · rw [if_neg h1] at h; cases h
  · rw [if_neg h0] at h
    by_cases h1 : -(n : Int) ≤ i
    · rw [if_pos h1] at h
      have e : (i + n).toNat = j := Option.some.inj h
      exact ⟨by rw [seqIndex_neg (by omega) h1, e], by omega, h1, by omega⟩
    · rw [if_neg h1] at h; cases h
theorem atI_get {α : Type} {xs : List α} {i : Int} {v : α} (h : atI xs i = some v) : ∃ j, seqIndex? i xs.length = some j ∧ xs[j]? = some v ∧ j < xs.length ∧ -(xs.length : Int) ≤ i ∧ i < xs.length := by
  unfold atI at h
  cases e : ixN xs.length i with
  | none => rw [e] at h; cases h
  | some j =>
    rw [e] at h
    obtain ⟨h1, h2, h3, h4⟩ := ixN_seq e
    exact ⟨j, h1, h, h2, h3, h4⟩
theorem atI_nat {α : Type} {xs : List α} {j : Nat} {v : α} (h : xs[j]? = some v) : atI xs (j : Int) = some v := by
  have hj : j < xs.length := (List.getElem?_eq_some_iff.mp h).1
  have e : ixN xs.length (j : Int) = some j := by
    unfold ixN
    rw [if_pos (by omega), if_pos (by omega)]; simp
  unfold atI; rw [e]; exact h
def PlainIx (b : Expr) : Prop := ∀ o i, subscripted b false o i = operate [o, i] (getItem o i)
def IxR (X : Cx) (r : R2) : Prop :=
  ∀ (value slice : Expr) (pins : List (Addr × Obj)) (s : Shared) (σ : St) (H : Hp) (x y : V) (v u : Value) (Q : VK), Inv X pins σ H s → RelV x v → RelV y u → r x y H Q →
    subscripted slice false v u = operate [v, u] (getItem v u) → wpAny (model X.prog X.w) X.A (subscriptTail value slice v u) (EP X pins σ Q) X.xe s
def MtR (X : Cx) (id : String) (r : V → List V → Hp → VK → Prop) : Prop :=
  ∀ (pins : List (Addr × Obj)) (s : Shared) (σ : St) (H : Hp) (x : V) (xs : List V) (v : Value) (us : List Value) (Q : VK), Inv X pins σ H s → RelV x v → Vals xs us → r x xs H Q →
    wpAny (model X.prog X.w) X.A (call (.builtin id) (v :: us)) (EP X pins σ Q) X.xe s
section
variable {X : Cx} {a b : Expr} {ta tb : TE} {pos : Pos}
theorem IxR.or {r r' : R2} (h : IxR X r) (h' : IxR X r') : IxR X (fun x y H Q => r x y H Q ∨ r' x y H Q) := by
  intro value slice pins s σ H x y v u Q I rx ry q hs
  rcases q with q | q
  · exact h value slice pins s σ H x y v u Q I rx ry q hs
  · exact h' value slice pins s σ H x y v u Q I rx ry q hs
theorem MtR.or {id : String} {r r' : V → List V → Hp → VK → Prop} (h : MtR X id r) (h' : MtR X id r') : MtR X id (fun x xs H Q => r x xs H Q ∨ r' x xs H Q) := by
  intro pins s σ H x xs v us Q I rx rs q
  rcases q with q | q
  · exact h pins s σ H x xs v us Q I rx rs q
  · exact h' pins s σ H x xs v us Q I rx rs q
theorem pe_ix {r : R2} (hr : IxR X r) (ha : PE X a ta) (hb : PE X b tb) (hs : PlainIx b) : PE X (.Subscript a b pos) (tOp r ta tb) := by
  intro pins s σ H Q I h
  exact Subscript_ (binT ha hb I h fun v u s2 x y H2 I2 rx ry q => hr a b pins s2 σ H2 x y v u Q I2 rx ry q (hs _ _))
def rIxL (K : PySem.W.Frag) : R2 := fun x y H Q => ∃ p xs i v, x = .ref p ∧ y = .int i ∧ SqL K H p xs ∧ atI xs i = some v ∧ Q v H
def rIxT (K : PySem.W.Frag) : R2 := fun x y H Q => ∃ p xs i v, x = .ref p ∧ y = .int i ∧ SqT K H p xs ∧ atI xs i = some v ∧ Q v H
def rIxS : R2 := fun x y H Q => ∃ z i c, x = .str z ∧ y = .int i ∧ z.length ≤ sizeLine ∧ atI z.cps.toList i = some c ∧ Q (.str ⟨#[c]⟩) H
theorem ix_list : IxR X (rIxL X.K) := by
  intro value slice pins s σ H x y v u Q I rx ry h hs
  obtain ⟨p, xs, i, z, rfl, rfl, hq, he, q⟩ := h
  cases rx
  obtain ⟨t, rfl⟩ := ry
  obtain ⟨its, r, pl, hz⟩ := I.list hq
  obtain ⟨j, h1, h2, h3, h4, h5⟩ := atI_get he
  obtain ⟨w, ew, rw'⟩ := r.get h2
  have hl := r.length
  have hn := line63
  have fin : EP X pins σ Q w s := ⟨z, H, I, rw', q⟩
  by_cases h0 : 0 ≤ i
  · have hj : i.toNat = j := by
      rw [seqIndex_of h0 h5] at h1
      exact Option.some.inj h1
    exact item_listR pl.isList h0 (by omega) (by rw [hj]; simpa using ew) fin hs
  · have hj : (i + (its.toArray.size : Int)).toNat = j := by
      rw [seqIndex_neg (by omega) h4] at h1
      rw [List.size_toArray, ← hl]
      exact Option.some.inj h1
    exact subscriptTail_builtinR (x := w) pl.isList.typeIs slot_list_getitem.lookup
      (wpAny_getItem_list_neg (Q := fun r s' => r = w ∧ EP X pins σ Q r s') pl.isList (by omega) (by rw [List.size_toArray] <;> omega) (by omega) (by rw [hj]; simpa using ew) ⟨rfl, fin⟩) hs
theorem ix_tup : IxR X (rIxT X.K) := by
  intro value slice pins s σ H x y v u Q I rx ry h hs
  obtain ⟨p, xs, i, z, rfl, rfl, hq, he, q⟩ := h
  cases rx
  obtain ⟨t, rfl⟩ := ry
  obtain ⟨its, r, pl, hz⟩ := I.tuple hq
  obtain ⟨j, h1, h2, h3, h4, h5⟩ := atI_get he
  obtain ⟨w, ew, rw'⟩ := r.get h2
  have hl := r.length
  have hn := line63
  have fin : EP X pins σ Q w s := ⟨z, H, I, rw', q⟩
  exact subscriptTail_builtinR (x := w) pl.typeIs slot_tuple_getitem.lookup
    (getItem_tuple (j := j) (Q := fun r s' => r = w ∧ EP X pins σ Q r s') pl (by omega) (by omega) (by rw [List.size_toArray, ← hl]; exact h1) (by simpa using ew) ⟨rfl, fin⟩) hs
theorem ix_str : IxR X rIxS := by
  intro value slice pins s σ H x y v u Q I rx ry h hs
  obtain ⟨z, i, c, rfl, rfl, hz, he, q⟩ := h
  obtain ⟨t, rfl⟩ := rx
  obtain ⟨t', rfl⟩ := ry
  obtain ⟨j, h1, h2, h3, h4, h5⟩ := atI_get he
  have hl : z.cps.toList.length = z.length := by simp [Str.length]
  rw [hl] at h1 h4 h5
  have hn := line63
  exact tail_any (typeIs_str s z t) slot_str_getitem.lookup (getItem_str (c := c) (by
    have e1 : decide (i < -(2 ^ 63 : Int)) = false := decide_eq_false (by omega)
    have e2 : decide (i ≥ 2 ^ 63) = false := decide_eq_false (by omega)
    rw [e1, e2, Bool.or_false]) (by rw [h1]; simpa using h2) ⟨.str ⟨#[c]⟩, H, I.tok _, ⟨_, rfl⟩, q⟩) hs
theorem mapSeq_set (its : List Value) (n j : Nat) (u : Value) : Obj.mapSeq (·.setIfInBounds j u) { cls := .type "list", data := .seq its.toArray n } = { cls := .type "list", data := .seq (its.set j u).toArray n } := by
  simp [Obj.mapSeq]
theorem Inv.lst {pins : List (Addr × Obj)} {σ : St} {H : Hp} {s : Shared} {p : Addr} {xs : List V} (I : Inv X pins σ H s) (h : H p = some (.lst xs)) :
    ∃ (its : List Value) (n : Nat), Vals xs its ∧ s.heap.get? p = some { cls := .type "list", data := .seq its.toArray n } ∧ xs.length ≤ sizeLine := by
  obtain ⟨z, its, n, r, e⟩ := I.hok p _ h
  exact ⟨its, n, r, e, z⟩
theorem Inv.lstUpd {pins : List (Addr × Obj)} {σ : St} {H : Hp} {s : Shared} {p : Addr} {xs ys : List V} {its its' : List Value} {n n' : Nat} {f : Obj → Obj} (I : Inv X pins σ H s) (h : H p = some (.lst xs))
    (ho : s.heap.get? p = some { cls := .type "list", data := .seq its.toArray n }) (hf : f { cls := .type "list", data := .seq its.toArray n } = { cls := .type "list", data := .seq its'.toArray n' }) (r : Vals ys its') (hz : ys.length ≤ sizeLine) (t : Nat) :
    Inv X pins σ (upd H p (.lst ys)) { s with heap := s.heap.update p f, toks := t } := by
  have e : (s.heap.update p f).get? p = some { cls := .type "list", data := .seq its'.toArray n' } := by
    rw [Heap.get?_update_self f ho (by rw [hf] <;> rfl), hf]
  refine I.write (x := p) (e := p) (by rw [h]; trivial) (.inl rfl) (fun b u hb q => (Heap.get?_update_other _ _ (Ne.symm hb)).trans q) ⟨_, e⟩ ?_
  exact ⟨hz, its', n', r, e⟩
def rSetL : V → V → V → Hp → (Hp → Prop) → Prop := fun o i v H Q => ∃ p xs k j, o = .ref p ∧ i = .int k ∧ H p = some (.lst xs) ∧ ixN xs.length k = some j ∧ Q (upd H p (.lst (xs.set j v)))
theorem set_list : PSet X rSetL := by
  intro pins s σ H o i v ov iv u Q I ro ri rv h
  obtain ⟨p, xs, k, j, rfl, rfl, hp, hj, q⟩ := h
  cases ro
  obtain ⟨t, rfl⟩ := ri
  obtain ⟨its, n, r, ho, hz⟩ := I.lst hp
  obtain ⟨h1, h2, h3, h4⟩ := ixN_seq hj
  have hl := r.length
  have hn := line63
  have I' : Inv X pins σ (upd H p (.lst (xs.set j v))) { s with heap := s.heap.update p (Obj.mapSeq (·.setIfInBounds j u)) } :=
    I.lstUpd hp ho (mapSeq_set its n j u) (r.set rv j) (by rw [List.length_set]; exact hz) s.toks
  by_cases h0 : 0 ≤ k
  · have hk : k.toNat = j := by
      rw [seqIndex_of h0 h4] at h1
      exact Option.some.inj h1
    exact PySem.W.ki_setAt ho h0 (by omega) (by rw [List.size_toArray, ← hl]; exact h4) (by rw [hk]; exact ⟨_, I', q⟩)
  · have hk : (k + (its.toArray.size : Int)).toNat = j := by
      rw [seqIndex_neg (by omega) h3] at h1
      rw [List.size_toArray, ← hl]
      exact Option.some.inj h1
    exact PySem.W.ki_setBack ho (by omega) (by rw [List.size_toArray, ← hl]; exact h3) (by omega) (by rw [hk]; exact ⟨_, I', q⟩)
theorem slice_bounds (lo hi : Option Int) (n : Nat) : (sliceBounds lo hi none n).1 = ((HT.sIx n 0 lo : Nat) : Int) ∧ (sliceBounds lo hi none n).2.1 = ((HT.sIx n n hi : Nat) : Int) ∧ (sliceBounds lo hi none n).2.2 = 1 := by
  refine ⟨?_, ?_, rfl⟩
  · cases lo with
    | none => simp [sliceBounds, HT.sIx]
    | some i =>
      simp only [sliceBounds, HT.sIx, Option.getD_none, show (1 : Int) > 0 by decide, if_true]
      by_cases h : i < 0
      · simp only [h, if_true] <;> omega
      · simp only [h, if_false] <;> omega
  · cases hi with
    | none => simp [sliceBounds, HT.sIx]
    | some i =>
      simp only [sliceBounds, HT.sIx, Option.getD_none, show (1 : Int) > 0 by decide, if_true]
      by_cases h : i < 0
      · simp only [h, if_true] <;> omega
      · simp only [h, if_false] <;> omega
theorem slicePick_cut (its : List Value) (lo hi : Option Int) : slicePick its.toArray lo hi none = ((its.drop (HT.sIx its.length 0 lo)).take (HT.sIx its.length its.length hi - HT.sIx its.length 0 lo)).toArray := by
  obtain ⟨h1, h2, h3⟩ := slice_bounds lo hi its.toArray.size
  unfold slicePick
  rw [h1, h2, h3]
  simp only [sliceRange_one, pick_run, List.size_toArray] <;> rfl
def rSlL (K : PySem.W.Frag) : V → Option Int → Option Int → Hp → VK → Prop := fun x lo hi H Q => ∃ a xs, x = .ref a ∧ SqL K H a xs ∧ ∀ p, H p = none → Q (.ref p) (upd H p (.lst (cutV xs lo hi)))
theorem sl_list : SlR X (rSlL X.K) := by
  intro pins s σ H x v vl vu lo hi sl Q I rx hs pl pu h
  obtain ⟨a, xs, rfl, hx, q⟩ := h
  cases rx
  obtain ⟨its, r, ht, hz⟩ := I.list hx
  have hlen := r.length
  refine ⟨"list", _, slot_list_getitem.lookup, ht.isList.typeIs, ?_⟩
  refine wpAny_getItem_list_slice ht.isList hs pl pu .none (by simp) ?_ (by rw [List.size_toArray] <;> omega)
  rw [slicePick_cut, ← hlen]
  refine ⟨.ref s.heap.objs.size, _, I.laid (t' := s.toks) (o := .lst (cutV xs lo hi)) (fun b ob q => Heap.get?_push_of_some _ q) (Nat.le_refl _) ?_, rfl, q _ (I.hok.fresh (Nat.le_refl _))⟩
  exact ⟨Nat.le_trans (cutV_length xs lo hi) hz, _, 0, (r.drop (HT.sIx xs.length 0 lo)).take (HT.sIx xs.length xs.length hi - HT.sIx xs.length 0 lo), Heap.get?_push_size _ rfl⟩
def flatV : V → Bool
  | .non => true
  | .bl _ => true
  | .int _ => true
  | .str _ => true
  | _ => false
def eqV : V → V → Bool
  | .non, .non => true
  | .bl a, .bl b => a == b
  | .bl a, .int b => (if a then 1 else 0) == b
  | .int a, .bl b => a == (if b then 1 else 0)
  | .int a, .int b => a == b
  | .str a, .str b => a == b
  | _, _ => false
theorem eqAt_V {A : Around} {s : Shared} {y x : V} {u v : Value} (ry : RelV y u) (rx : RelV x v) (fy : flatV y = true) (fx : flatV x = true) : SeqAt.EqAt A s u v (eqV y x) := by
  cases y with
  | non =>
    cases ry
    cases x with
    | non => cases rx; exact SeqAt.EqAt.same _
    | bl b => cases rx; exact SeqAt.EqAt.none_bool b
    | int b => obtain ⟨t, rfl⟩ := rx; exact SeqAt.EqAt.none_int b t
    | str b => obtain ⟨t, rfl⟩ := rx; exact SeqAt.EqAt.none_str b t
    | _ => exact absurd (show false = true from fx) Bool.false_ne_true
  | bl a =>
    cases ry
    cases x with
    | non => cases rx; exact SeqAt.EqAt.bool_none a
    | bl b => cases rx; exact SeqAt.EqAt.bool_bool a b
    | int b => obtain ⟨t, rfl⟩ := rx; exact SeqAt.EqAt.bool_int a b t
    | str b => obtain ⟨t, rfl⟩ := rx; exact SeqAt.EqAt.bool_str a b t
    | _ => exact absurd (show false = true from fx) Bool.false_ne_true
  | int a =>
    obtain ⟨t', rfl⟩ := ry
    cases x with
    | non => cases rx; exact SeqAt.EqAt.int_none a t'
    | bl b => cases rx; exact SeqAt.EqAt.int_bool a t' b
    | int b => obtain ⟨t, rfl⟩ := rx; exact SeqAt.EqAt.int_int a t' b t
    | str b => obtain ⟨t, rfl⟩ := rx; exact SeqAt.EqAt.int_str a t' b t
    | _ => exact absurd (show false = true from fx) Bool.false_ne_true
  | str a =>
    obtain ⟨t', rfl⟩ := ry
    cases x with
    | non => cases rx; exact SeqAt.EqAt.str_none a t'
    | bl b => cases rx; exact SeqAt.EqAt.str_bool a t' b
    | int b => obtain ⟨t, rfl⟩ := rx; exact SeqAt.EqAt.str_int a t' b t
    | str b => obtain ⟨t, rfl⟩ := rx; exact SeqAt.EqAt.str_str a t' b t
    | _ => exact absurd (show false = true from fx) Bool.false_ne_true
  | _ => exact absurd (show false = true from fy) Bool.false_ne_true
def eqU (x : V) (u : Value) : Bool := match u with
  | .none => eqV .non x
  | .bool b => eqV (.bl b) x
  | .int i _ => eqV (.int i) x
  | .str z _ => eqV (.str z) x
  | _ => false
theorem eqU_of {x y : V} {u : Value} (r : RelV y u) (f : flatV y = true) : eqU x u = eqV y x := by
  cases y with
  | non => cases r; rfl
  | bl b => cases r; rfl
  | int i => obtain ⟨t, rfl⟩ := r; rfl
  | str z => obtain ⟨t, rfl⟩ := r; rfl
  | _ => exact absurd (show false = true from f) Bool.false_ne_true
theorem any_eqU {x : V} : ∀ {xs : List V} {us : List Value}, Vals xs us → xs.all flatV = true → us.any (eqU x) = xs.any fun y => eqV y x
  | _, _, .nil, _ => rfl
  | y :: xs, u :: us, .cons r t, f => by
    rw [List.all_cons, Bool.and_eq_true] at f
    rw [List.any_cons, List.any_cons, eqU_of r f.1, any_eqU t f.2]
theorem mem_eqAt {A : Around} {s : Shared} {x : V} {v : Value} (rx : RelV x v) (fx : flatV x = true) : ∀ {xs : List V} {us : List Value}, Vals xs us → xs.all flatV = true → ∀ u ∈ us, SeqAt.EqAt A s u v (eqU x u)
  | _, _, .nil, _ => fun u hu => by cases hu
  | y :: xs, u :: us, .cons r t, f => fun u' hu => by
    rw [List.all_cons, Bool.and_eq_true] at f
    rcases List.mem_cons.mp hu with rfl | hu
    · rw [eqU_of r f.1]; exact eqAt_V r rx f.1 fx
    · exact mem_eqAt rx fx t f.2 u' hu
def inV (x : V) (xs : List V) : Bool := xs.any fun y => eqV y x
def rIn (K : PySem.W.Frag) (neg : Bool) : R2 := fun x y H Q => ∃ p xs, y = .ref p ∧ (SqL K H p xs ∨ SqT K H p xs) ∧ flatV x = true ∧ xs.all flatV = true ∧ Q (.bl (if neg then !inV x xs else inV x xs)) H
theorem op_in_seq : OpR X (compareOp .In) (rIn X.K false) := by
  intro pins s σ H x y v u Q I rx ry h
  obtain ⟨p, xs, rfl, hq, fx, fs, q⟩ := h
  cases ry
  rcases hq with hq | hq
  · obtain ⟨its, r, pl, hz⟩ := I.list hq
    refine SeqAt.in_listAt (eqU x) pl.isList (fun w hw => mem_eqAt rx fx r fs w (by simpa using hw)) ⟨.bl _, H, I, rfl, ?_⟩
    rw [show its.toArray.any (eqU x) = its.any (eqU x) by simp, any_eqU r fs]
    exact q
  · obtain ⟨its, r, pl, hz⟩ := I.tuple hq
    refine SeqAt.in_tupleAt (eqU x) pl (fun w hw => mem_eqAt rx fx r fs w (by simpa using hw)) ⟨.bl _, H, I, rfl, ?_⟩
    rw [show its.toArray.any (eqU x) = its.any (eqU x) by simp, any_eqU r fs]
    exact q
theorem op_notIn_seq : OpR X (compareOp .NotIn) (rIn X.K true) := by
  intro pins s σ H x y v u Q I rx ry h
  obtain ⟨p, xs, rfl, hq, fx, fs, q⟩ := h
  cases ry
  rcases hq with hq | hq
  · obtain ⟨its, r, pl, hz⟩ := I.list hq
    refine SeqAt.notIn_listAt (eqU x) pl.isList (fun w hw => mem_eqAt rx fx r fs w (by simpa using hw)) ⟨.bl _, H, I, rfl, ?_⟩
    rw [show its.toArray.any (eqU x) = its.any (eqU x) by simp, any_eqU r fs]
    exact q
  · obtain ⟨its, r, pl, hz⟩ := I.tuple hq
    refine SeqAt.notIn_tupleAt (eqU x) pl (fun w hw => mem_eqAt rx fx r fs w (by simpa using hw)) ⟨.bl _, H, I, rfl, ?_⟩
    rw [show its.toArray.any (eqU x) = its.any (eqU x) by simp, any_eqU r fs]
    exact q
theorem CallR.or {f : Value} {r r' : List V → Hp → VK → Prop} (h : CallR X f r) (h' : CallR X f r') : CallR X f (fun xs H Q => r xs H Q ∨ r' xs H Q) := by
  intro pins s σ H xs us Q I rs q
  rcases q with q | q
  · exact h pins s σ H xs us Q I rs q
  · exact h' pins s σ H xs us Q I rs q
theorem call_list_of : CallR X (.type "list") (fun xs H Q => ∃ p ys, xs = [.ref p] ∧ (SqL X.K H p ys ∨ SqT X.K H p ys) ∧ ∀ l, H l = none → Q (.ref l) (upd H l (.lst ys))) := by
  intro pins s σ H xs us Q I r h
  obtain ⟨p, ys, rfl, hq, q⟩ := h
  obtain ⟨u, rfl, rx⟩ := vals1 r
  cases rx
  have fin : ∀ (its : List Value), Vals ys its → ys.length ≤ sizeLine → ∀ (h' : Heap) (c' : Nat), (∀ b o', s.heap.get? b = some o' → h'.get? b = some o') →
      h'.get? s.heap.objs.size = some { cls := .type "list", dict := none, data := .seq its.toArray c', slots := #[] } → EP X pins σ Q (.ref s.heap.objs.size) { s with heap := h' } := fun its r' hz h' c' kp e =>
    ⟨.ref s.heap.objs.size, _, I.laid (t' := s.toks) kp (Nat.le_refl _) (show ObjOk X.prog X.w _ h' _ (.lst ys) from ⟨hz, its, c', r', e⟩), rfl, q _ (I.hok.fresh (Nat.le_refl _))⟩
  rcases hq with hq | hq
  · obtain ⟨its, r', pl, hz⟩ := I.list hq
    have hlen := r'.length
    obtain ⟨o, ho, hc, n, hd⟩ := pl.isList
    exact call_list_seq p (.inl rfl) ho hc hd (fun h' c' kp e => fin its r' hz h' c' kp e) (by simp only [List.size_toArray] <;> omega)
  · obtain ⟨its, r', pl, hz⟩ := I.tuple hq
    have hlen := r'.length
    obtain ⟨o, ho, hc, n, hd⟩ := pl
    exact call_list_seq p (.inr rfl) ho hc hd (fun h' c' kp e => fin its r' hz h' c' kp e) (by simp only [List.size_toArray] <;> omega)
def tyV (K : PySem.W.Frag) (T : String) (x : V) (H : Hp) : Prop := match x with
  | .str _ => T = "str"
  | .int _ => T = "int"
  | .ref p => (T = "list" ∧ ∃ xs, SqL K H p xs) ∨ (T = "tuple" ∧ ∃ o, K.lookup p = some o ∧ o.cls = .type "tuple" ∧ o.dict = none) ∨
      (T = "dict" ∧ ((∃ kvs, H p = some (.dK kvs)) ∨ ∃ kvs, H p = some (.dT kvs))) ∨ (T = "set" ∧ ∃ S n, H p = some (.set S n))
  | _ => False
theorem tyV_is {pins : List (Addr × Obj)} {σ : St} {H : Hp} {s : Shared} {T : String} {x : V} {v : Value} (I : Inv X pins σ H s) (r : RelV x v) (ty : tyV X.K T x H) :
    s.TypeIs v T ∧ ∀ a, v = .ref a → ∃ ob, s.heap.get? a = some ob ∧ ob.dict = none := by
  cases x with
  | str z =>
    obtain ⟨t, rfl⟩ := r
    cases (show T = "str" from ty)
    exact ⟨typeIs_str s z t, fun _ e => nomatch e⟩
  | int i =>
    obtain ⟨t, rfl⟩ := r
    cases (show T = "int" from ty)
    exact ⟨typeIs_int s i t, fun _ e => nomatch e⟩
  | ref p =>
    cases r
    rcases ty with ⟨rfl, xs, hq⟩ | ⟨rfl, o, hk, hc, hd⟩ | ⟨rfl, hk⟩ | ⟨rfl, S, n, hk⟩
    · obtain ⟨its, _, pl, _⟩ := I.list hq
      refine ⟨pl.isList.typeIs, fun a e => ?_⟩
      cases e
      obtain ⟨o, n, e, c, hd, _⟩ := pl
      exact ⟨o, e, hd⟩
    · refine ⟨⟨o, I.kIn p o hk, hc⟩, fun a e => ?_⟩
      cases e
      exact ⟨o, I.kIn _ o hk, hd⟩
    · have z : ∃ o, s.heap.get? p = some o ∧ o.ExactDict := by
        rcases hk with ⟨kvs, hk⟩ | ⟨kvs, hk⟩
        · obtain ⟨_, _, _, _, o, _, _, e, ex, _⟩ := I.hok p _ hk
          exact ⟨o, e, ex⟩
        · obtain ⟨_, _, _, _, o, _, _, e, ex, _⟩ := I.hok p _ hk
          exact ⟨o, e, ex⟩
      obtain ⟨o, e, ex⟩ := z
      refine ⟨⟨o, e, ex.1⟩, fun a e2 => ?_⟩
      cases e2
      exact ⟨o, e, ex.2.1⟩
    · obtain ⟨o, _, _, _, e, ex, _⟩ := I.hok p _ hk
      refine ⟨⟨o, e, ex.1⟩, fun a e2 => ?_⟩
      cases e2
      exact ⟨o, e, ex.2.1⟩
  | _ => exact False.elim ty
def tBM0 (K : PySem.W.Frag) (T : String) (r : V → List V → Hp → VK → Prop) (to : TE) : TE := fun σ H Q => to σ H fun x H1 => tyV K T x H1 ∧ r x [] H1 Q
def tBM (K : PySem.W.Frag) (T : String) (r : V → List V → Hp → VK → Prop) (to : TE) (t : TA) : TE := fun σ H Q => to σ H fun x H1 => tyV K T x H1 ∧ t σ H1 fun xs H2 => r x xs H2 Q
variable {o e : Expr} {es : List Expr} {to : TE} {t : TA} {name : Str} {apos cpos : Pos} {T id : String} {r : V → List V → Hp → VK → Prop}
theorem pe_bm0 (pa : PlainAttrs T) (slot : Slot T name id) (hty : typeOf (.builtin id) = pure (.type "method_descriptor")) (hm : MtR X id r) (ho : PE X o to)
    (hbase : attributeBase o name X.env (eval o X.env) = eval o X.env := by rfl) (hline : (apos.endLine == cpos.line) = true := by rfl) : PE X (.Call (.Attribute o name apos) [] [] cpos) (tBM0 X.K T r to) := by
  intro pins s σ H Q I h
  refine wpAny_Call_method0_late hbase hline (thn (ho pins s σ H _ I h) fun v s1 ⟨x, H1, I1, r1, ty, q1⟩ => ?_)
  obtain ⟨h1, h2⟩ := tyV_is I1 r1 ty
  exact ⟨T, id, pa, slot, hty, h1, h2, Calls.callWith_builtin rfl (PySem.evalArgs_none (hm pins s1 σ H1 x [] v [] Q I1 r1 .nil q1))⟩
theorem pe_bm (pa : PlainAttrs T) (slot : Slot T name id) (hty : typeOf (.builtin id) = pure (.type "method_descriptor")) (hm : MtR X id r) (ho : PE X o to) (ha : PA X (e :: es) t)
    (hbase : attributeBase o name X.env (eval o X.env) = eval o X.env := by rfl)
    (hfew : ((backTo cpos (starEach (e :: es) X.env)).all (fun x => !x.1) && (backToKw cpos (keywordEach [] X.env)).all (fun x => x.1.isSome)
      && decide ((e :: es).length + ([] : List Keyword).length + (if ([] : List Keyword).isEmpty then 0 else 1) < 30)) = true := by rfl)
    (hline : (apos.endLine == cpos.line) = true := by rfl) (hs : starEach (e :: es) X.env = (false, eval e X.env) :: starEach es X.env := by rfl) (hplain : (backTo cpos (starEach es X.env)).any (·.1) = false := by rfl) :
    PE X (.Call (.Attribute o name apos) (e :: es) [] cpos) (tBM X.K T r to t) := by
  intro pins s σ H Q I h
  refine wpAny_Call_method_late hbase hfew hline rfl (thn (ho pins s σ H _ I h) fun v s1 ⟨x, H1, I1, r1, ty, q1⟩ => ?_)
  obtain ⟨h1, h2⟩ := tyV_is I1 r1 ty
  refine ⟨T, id, pa, slot, hty, h1, h2, ?_⟩
  have hA := ha cpos pins s1 σ H1 _ I1 q1
  rw [hs] at hA ⊢
  refine Calls.callWith_builtin (by show (false || (backTo cpos (starEach es X.env)).any (·.1)) = false; rw [hplain] <;> rfl) (Calls.evalArgs_plain ?_)
  exact thn hA fun us s2 ⟨vs, H2, I2, r2, q2⟩ => hm pins s2 σ H2 x vs v us Q I2 r1 r2 q2
end
end L2
namespace L2
open PySem PySem.Spec PyProof.Rows
def MtM (X : Cx) (id : String) (r : V → List V → Hp → VK → Prop) : Prop :=
  ∀ (pins : List (Addr × Obj)) (s : Shared) (σ : St) (H : Hp) (x : V) (xs : List V) (v : Value) (us : List Value) (Q : VK), Inv X pins σ H s → RelV x v → Vals xs us → r x xs H Q →
    wpAny (model X.prog X.w) X.A (call (.builtin id) (v :: us)) (EP X pins σ Q) X.xe s
theorem Vals.one : ∀ {x : V} {us : List Value}, Vals [x] us → ∃ u, us = [u] ∧ RelV x u
  | _, _, .cons r .nil => ⟨_, rfl, r⟩
theorem Vals.two : ∀ {x y : V} {us : List Value}, Vals [x, y] us → ∃ u v, us = [u, v] ∧ RelV x u ∧ RelV y v
  | _, _, _, .cons r (.cons q .nil) => ⟨_, _, rfl, r, q⟩
theorem Vals.zero : ∀ {us : List Value}, Vals [] us → us = []
  | _, .nil => rfl
theorem Vals.reverse {xs : List V} {us : List Value} (h : Vals xs us) : Vals xs.reverse us.reverse := by
  induction h with
  | nil => exact .nil
  | cons r t ih => rw [List.reverse_cons, List.reverse_cons]; exact Vals.append ih (.cons r .nil)
theorem foldl_rep (its : List Value) : ∀ (k : Nat) (acc : List Value),
    List.foldl (fun x1 x2 => x1 ++ x2) acc.toArray (List.replicate k its.toArray) = (acc ++ (List.replicate k its).flatten).toArray
  | 0, acc => by simp
  | k + 1, acc => by
    have e : acc.toArray ++ its.toArray = (acc ++ its).toArray := by simp
    have e2 : (acc ++ its) ++ (List.replicate k its).flatten = acc ++ (List.replicate (k + 1) its).flatten := by
      rw [List.replicate_succ, List.flatten_cons, List.append_assoc]
    rw [← e2, ← foldl_rep its k (acc ++ its), ← e, List.replicate_succ, List.foldl_cons]
section
variable {X : Cx} {pins : List (Addr × Obj)} {σ : St} {H : Hp} {s : Shared} {l b : Addr} {xs ys zs : List V}
theorem Inv.lset {its its' : List Value} {n : Nat} {f : Array Value → Array Value} {t' : Nat} (I : Inv X pins σ H s) (hH : H l = some (.lst xs))
    (e : s.heap.get? l = some { cls := .type "list", data := .seq its.toArray n }) (hf : f its.toArray = its'.toArray) (hv : Vals ys its') (hz : ys.length ≤ sizeLine) :
    Inv X pins σ (upd H l (.lst ys)) { s with heap := s.heap.update l (Obj.mapSeq f), toks := t' } := by
  have q := PySem.IsL.update e f
  rw [hf] at q
  refine I.write (x := l) (e := l) (by rw [hH]; exact trivial) (.inl rfl) (fun b' u hb hu => (Heap.get?_update_other s.heap (Obj.mapSeq f) (Ne.symm hb)).trans hu) ⟨_, q⟩ ?_
  exact ⟨hz, its', _, hv, q⟩
theorem Inv.lnew {its : List Value} {t' : Nat} (I : Inv X pins σ H s) (hv : Vals ys its) (hz : ys.length ≤ sizeLine) :
    Inv X pins σ (upd H s.heap.objs.size (.lst ys)) { s with heap := s.heap.push { cls := .type "list", data := .seq its.toArray }, toks := t' } :=
  I.laid (fun _ _ q => Heap.get?_push_of_some _ q) (Nat.le_refl _) ⟨hz, its, 0, hv, Heap.get?_push_size _ rfl⟩
theorem Inv.fresh (I : Inv X pins σ H s) : H s.heap.objs.size = none := I.hok.fresh (Nat.le_refl _)
theorem Inv.lstM (I : Inv X pins σ H s) (hH : H l = some (.lst xs)) : xs.length ≤ sizeLine ∧ ∃ (its : List Value) (n : Nat), Vals xs its ∧ xs.length = its.length ∧ s.heap.get? l = some { cls := .type "list", data := .seq its.toArray n } := by
  obtain ⟨z, its, n, r, e⟩ := I.hok l _ hH
  exact ⟨z, its, n, r, r.length, e⟩
theorem notLongL {n : Nat} (h : n ≤ sizeLine) : Builtin.List.listTooLong n = false := by
  unfold Builtin.List.listTooLong
  exact decide_eq_false (by omega)
end
section
variable {X : Cx}
def rAppend : V → List V → Hp → VK → Prop := fun x vs H Q => ∃ l xs y, x = .ref l ∧ vs = [y] ∧ H l = some (.lst xs) ∧ xs.length < sizeLine ∧ Q .non (upd H l (.lst (xs ++ [y])))
theorem mt_append : MtM X "list.append" rAppend := by
  intro pins s σ H x vs v us Q I rx rv h
  obtain ⟨l, xs, y, rfl, rfl, hH, hz, q⟩ := h
  cases rx
  obtain ⟨u, rfl, ru⟩ := rv.one
  obtain ⟨z, its, n, r, hl, e⟩ := I.lstM hH
  refine call_meets F.slot_list_append ⟨_, e, rfl⟩ F.entry_list_append (F.args_list_append_2 _ _) (PySem.list_append l its.toArray n u (by rw [List.size_toArray]; omega)) ⟨e, ?_⟩
  refine ⟨.non, _, I.lset (its' := its ++ [u]) hH e (by simp) (r.append (.cons ru .nil)) ?_, rfl, q⟩
  rw [List.length_append, List.length_singleton]
  omega
end
section
variable {prog : Program} {w : World} {A : Around} {E : Value → Shared → Prop} {s : Shared}
end
section
variable {X : Cx}
end
end L2
namespace L2
open PySem PySem.Spec PyProof.Rows
theorem Vals.ints : ∀ {ns : List Int} {us : List Value}, Vals (ns.map V.int) us → IntsAre us ns
  | [], us, h => by
    rw [List.map_nil] at h
    cases h
    exact IntsAre.nil
  | n :: ns, us, h => by
    rw [List.map_cons] at h
    cases h with
    | cons r t =>
      obtain ⟨k, rfl⟩ := r
      exact IntsAre.cons n k (Vals.ints t)
section
variable {prog : Program} {w : World} {A : Around} {E : Value → Shared → Prop} {s : Shared} {l : Addr} {its : List Value} {ns : List Int} {Q : Value → Shared → Prop}
end
section
variable {X : Cx}
end
section
variable {X : Cx}
end
section
variable {X : Cx}
end
section
variable {X : Cx}
end
mutual
inductive Dp (K : PySem.W.Frag) (H : Hp) : V → PyData → Prop
  | non : Dp K H .non .none
  | bl (b : Bool) : Dp K H (.bl b) (.bool b)
  | int (i : Int) : Dp K H (.int i) (.int i)
  | str (x : Str) : Dp K H (.str x) (.str x)
  | lst {a : Addr} {xs : List V} {ds : List PyData} : SqL K H a xs → DpAll K H xs ds → Dp K H (.ref a) (.list ds)
  | tup {a : Addr} {xs : List V} {ds : List PyData} : SqT K H a xs → DpAll K H xs ds → Dp K H (.ref a) (.tuple ds)
inductive DpAll (K : PySem.W.Frag) (H : Hp) : List V → List PyData → Prop
  | nil : DpAll K H [] []
  | cons {v : V} {vs : List V} {d : PyData} {ds : List PyData} : Dp K H v d → DpAll K H vs ds → DpAll K H (v :: vs) (d :: ds)
end
section
variable {X : Cx} {pins : List (Addr × Obj)} {σ : St} {H : Hp} {s : Shared}
mutual
theorem Dp.reads (I : Inv X pins σ H s) : ∀ (d : PyData) (v : V) (u : Value), Dp X.K H v d → RelV v u → ∃ as, Reads s.heap u d as
  | .none, _, _, h, r => by
    cases h
    cases r
    exact ⟨_, Reads.none⟩
  | .bool b, _, _, h, r => by
    cases h
    cases r
    exact ⟨_, Reads.bool b⟩
  | .int i, _, _, h, r => by
    cases h
    obtain ⟨t, rfl⟩ := r
    exact ⟨_, Reads.int i t⟩
  | .str x, _, _, h, r => by
    cases h
    obtain ⟨t, rfl⟩ := r
    exact ⟨_, Reads.str x t⟩
  | .list ds, _, _, h, r => by
    cases h with
    | lst hs ha =>
      cases r
      obtain ⟨its, rv, ⟨o, n, ho, hc, _, hd⟩, _⟩ := I.list hs
      obtain ⟨as, hr⟩ := Dp.readsAll I ds _ its ha rv
      exact ⟨_, Reads.list ho hc hd hr⟩
  | .tuple ds, _, _, h, r => by
    cases h with
    | tup hs ha =>
      cases r
      obtain ⟨its, rv, ⟨o, ho, hc, n, hd⟩, _⟩ := I.tuple hs
      obtain ⟨as, hr⟩ := Dp.readsAll I ds _ its ha rv
      exact ⟨_, Reads.tuple ho hc hd hr⟩
  | .dict _, _, _, h, _ => by cases h
theorem Dp.readsAll (I : Inv X pins σ H s) : ∀ (ds : List PyData) (vs : List V) (us : List Value), DpAll X.K H vs ds → Vals vs us → ∃ as, ReadsAll s.heap us ds as
  | [], _, _, h, r => by
    cases h
    cases r
    exact ⟨_, ReadsAll.nil⟩
  | d :: ds, _, _, h, r => by
    cases h with
    | cons h1 h2 =>
      cases r with
      | cons r1 r2 =>
        obtain ⟨as, q1⟩ := Dp.reads I d _ _ h1 r1
        obtain ⟨bs, q2⟩ := Dp.readsAll I ds _ _ h2 r2
        exact ⟨_, ReadsAll.cons q1 q2⟩
end
end
section
variable {X : Cx}
def rEqD (K : PySem.W.Frag) : R2 := fun x y H Q => ∃ d e, Dp K H x d ∧ Dp K H y e ∧ SeqAt.shaped d = true ∧ SeqAt.shaped e = true ∧ Q (.bl (PyData.eqv d e)) H
def rNeD (K : PySem.W.Frag) : R2 := fun x y H Q => ∃ d e, Dp K H x d ∧ Dp K H y e ∧ SeqAt.shaped d = true ∧ SeqAt.shaped e = true ∧ Q (.bl (!PyData.eqv d e)) H
theorem op_eqD (hu : X.A.units + 64 < cLine) : OpR X (compareOp .Eq) (rEqD X.K) := by
  intro pins s σ H x y v u Q I rx ry h
  obtain ⟨d, e, hd, he, sd, se, q⟩ := h
  obtain ⟨as, r1⟩ := Dp.reads I d x v hd rx
  obtain ⟨bs, r2⟩ := Dp.reads I e y u he ry
  exact SeqAt.compareEq_shaped r1 r2 sd se hu ⟨.bl _, H, I, rfl, q⟩
theorem op_neD (hu : X.A.units + 64 < cLine) : OpR X (compareOp .NotEq) (rNeD X.K) := by
  intro pins s σ H x y v u Q I rx ry h
  obtain ⟨d, e, hd, he, sd, se, q⟩ := h
  obtain ⟨as, r1⟩ := Dp.reads I d x v hd rx
  obtain ⟨bs, r2⟩ := Dp.reads I e y u he ry
  exact SeqAt.compareNe_shaped r1 r2 sd se hu ⟨.bl _, H, I, rfl, q⟩
end
end L2
namespace L2
open PySem PySem.Spec PyProof.Rows
abbrev CellAt (h : Heap) (c : Addr) (v : Option Value) : Prop := h.IsCell c v
def relS (scope sc : Scope) : Scope :=
  { scope with names := scope.names.map fun (n, k) => if (k == .free && sc.kind == .function && sc.names.lookup n == some .cell) then (n, .cell) else (n, k) }
def cloFrom (cells : List (Str × Addr)) : List (Str × NameKind) → List (Str × Addr) → List (Str × Addr)
  | [], acc => acc
  | (n, k) :: r, acc => if k == .free then cloFrom cells r ((n, (cells.lookup n).getD 0) :: acc) else cloFrom cells r acc
theorem closure_loop (env : Env) (f : Str × NameKind → List (Str × Addr) → Sem (ForInStep (List (Str × Addr))))
    (hf : ∀ n k c, f (n, k) c = if k == .free then (do let a ← cellOf env n; pure (.yield ((n, a) :: c))) else pure (.yield c)) :
    ∀ (names : List (Str × NameKind)) (acc : List (Str × Addr)), (∀ y ∈ names, y.2 = .free → ∃ c, env.cells.lookup y.1 = some c) → forIn names acc f = pure (cloFrom env.cells names acc)
  | [], acc, _ => by rw [List.forIn_nil]; rfl
  | (n, k) :: r, acc, h => by
    rw [List.forIn_cons, hf]
    have ih := fun acc => closure_loop env f hf r acc fun y hy => h y (List.mem_cons_of_mem _ hy)
    unfold cloFrom
    by_cases hk : (k == NameKind.free) = true
    · rw [if_pos hk, if_pos hk]
      obtain ⟨c, hc⟩ := h (n, k) List.mem_cons_self (by simpa using hk)
      have e : cellOf env n = pure c := by unfold cellOf; rw [hc]
      rw [e]
      have e2 : (env.cells.lookup n).getD 0 = c := by rw [hc]; rfl
      rw [e2]
      exact ih _
    · rw [if_neg hk, if_neg hk]
      exact ih _
theorem closure_ok {scope : Scope} {env : Env} (h : ∀ y ∈ scope.names, y.2 = .free → ∃ c, env.cells.lookup y.1 = some c) : closureFor scope env = pure (cloFrom env.cells scope.names []) := by
  simp only [closureFor]
  rw [closure_loop env _ (fun n k c => rfl) scope.names [] h]
  rfl
theorem mem_lookup {α : Type} : ∀ {l : List (Str × α)} {n : Str} {c : α}, (n, c) ∈ l → ∃ c', l.lookup n = some c'
  | (k, v) :: r, n, c, h => by
    rw [List.lookup_cons]
    cases hb : n == k with
    | true => exact ⟨_, rfl⟩
    | false =>
      rcases List.mem_cons.mp h with e | h
      · cases e; simp at hb
      · exact mem_lookup h
theorem cloFrom_mem {cells : List (Str × Addr)} : ∀ {names : List (Str × NameKind)} {acc : List (Str × Addr)} {n : Str} {c : Addr}, (n, c) ∈ cloFrom cells names acc → (n, c) ∈ acc ∨ ((n, .free) ∈ names ∧ c = (cells.lookup n).getD 0)
  | [], _, _, _, h => .inl h
  | (m, k) :: r, acc, n, c, h => by
    unfold cloFrom at h
    split at h
    · rename_i hk
      have hk : k = .free := by simpa using hk
      rcases cloFrom_mem h with h | ⟨h1, h2⟩
      · rcases List.mem_cons.mp h with e | h
        · cases e; exact .inr ⟨hk ▸ List.mem_cons_self, rfl⟩
        · exact .inl h
      · exact .inr ⟨List.mem_cons_of_mem _ h1, h2⟩
    · rcases cloFrom_mem h with h | ⟨h1, h2⟩
      · exact .inl h
      · exact .inr ⟨List.mem_cons_of_mem _ h1, h2⟩
theorem cloFrom_acc {cells : List (Str × Addr)} : ∀ {names : List (Str × NameKind)} {acc : List (Str × Addr)} {p : Str × Addr}, p ∈ acc → p ∈ cloFrom cells names acc
  | [], _, _, h => h
  | (m, k) :: r, acc, p, h => by
    unfold cloFrom
    split
    · exact cloFrom_acc (List.mem_cons_of_mem _ h)
    · exact cloFrom_acc h
theorem cloFrom_has {cells : List (Str × Addr)} : ∀ {names : List (Str × NameKind)} {acc : List (Str × Addr)} {n : Str}, (n, .free) ∈ names → (n, (cells.lookup n).getD 0) ∈ cloFrom cells names acc
  | (m, k) :: r, acc, n, h => by
    unfold cloFrom
    rcases List.mem_cons.mp h with e | h
    · cases e
      exact cloFrom_acc List.mem_cons_self
    · split
      · exact cloFrom_has h
      · exact cloFrom_has h
theorem cells_mem : ∀ {names : List (Str × NameKind)} {h : Heap} {acc : List (Str × Addr)} {x : Str} {c : Addr}, (x, c) ∈ cellsFrom h.objs.size names acc →
    (x, c) ∈ acc ∨ ((x, .cell) ∈ names ∧ h.objs.size ≤ c ∧ CellAt (pushCells h names) c none)
  | [], _, _, _, _, h => .inl h
  | (n, k) :: r, h, acc, x, c, hm => by
    unfold cellsFrom at hm
    unfold pushCells
    split at hm
    · rename_i hk
      rw [if_pos hk]
      have hk : k = .cell := by simpa using hk
      rw [← Heap.size_push h { cls := .type "cell", data := .cell none }] at hm
      rcases cells_mem hm with hm | ⟨h1, h2, h3⟩
      · rcases List.mem_cons.mp hm with e | hm
        · cases e
          exact .inr ⟨hk ▸ List.mem_cons_self, Nat.le_refl _, _, pushCells_keeps r _ _ _ (Heap.get?_push_size _ rfl), rfl⟩
        · exact .inl hm
      · rw [Heap.size_push] at h2
        exact .inr ⟨List.mem_cons_of_mem _ h1, Nat.le_of_succ_le h2, h3⟩
    · rename_i hk
      rw [if_neg hk]
      rcases cells_mem hm with hm | ⟨h1, h2, h3⟩
      · exact .inl hm
      · exact .inr ⟨List.mem_cons_of_mem _ h1, h2, h3⟩
theorem cells_acc : ∀ {names : List (Str × NameKind)} {n : Nat} {acc : List (Str × Addr)} {p : Str × Addr}, p ∈ acc → p ∈ cellsFrom n names acc
  | [], _, _, _, h => h
  | (m, k) :: r, n, acc, p, h => by
    unfold cellsFrom
    split
    · exact cells_acc (List.mem_cons_of_mem _ h)
    · exact cells_acc h
theorem cells_has : ∀ {names : List (Str × NameKind)} {n : Nat} {acc : List (Str × Addr)} {x : Str}, (x, .cell) ∈ names → ∃ c, (x, c) ∈ cellsFrom n names acc
  | (m, k) :: r, n, acc, x, h => by
    unfold cellsFrom
    rcases List.mem_cons.mp h with e | h
    · cases e
      exact ⟨n, cells_acc List.mem_cons_self⟩
    · split
      · exact cells_has h
      · exact cells_has h
theorem cells_inj : ∀ {names : List (Str × NameKind)} {h : Heap} {acc : List (Str × Addr)} {x y : Str} {c : Addr}, (∀ p ∈ acc, p.2 < h.objs.size) → (∀ x y c, (x, c) ∈ acc → (y, c) ∈ acc → x = y) →
    (x, c) ∈ cellsFrom h.objs.size names acc → (y, c) ∈ cellsFrom h.objs.size names acc → x = y
  | [], _, _, _, _, _, _, hi, h1, h2 => hi _ _ _ h1 h2
  | (n, k) :: r, h, acc, x, y, c, hl, hi, h1, h2 => by
    unfold cellsFrom at h1 h2
    split at h1
    · rename_i hk
      rw [if_pos hk] at h2
      rw [← Heap.size_push h { cls := .type "cell", data := .cell none }] at h1 h2
      refine cells_inj (h := h.push _) (fun p hp => ?_) (fun x y c a b => ?_) h1 h2
      · rw [Heap.size_push]
        rcases List.mem_cons.mp hp with rfl | hp
        · exact Nat.lt_succ_self _
        · exact Nat.lt_succ_of_lt (hl p hp)
      · rcases List.mem_cons.mp a with e | a <;> rcases List.mem_cons.mp b with e' | b
        · cases e; cases e'; rfl
        · cases e; exact absurd (hl _ b) (Nat.lt_irrefl _)
        · cases e'; exact absurd (hl _ a) (Nat.lt_irrefl _)
        · exact hi _ _ _ a b
    · rename_i hk
      rw [if_neg hk] at h2
      exact cells_inj hl hi h1 h2
theorem newEnv_comp {M : Model} {A : Around} {E : Value → Shared → Prop} {s : Shared} {scope : Scope} {globals : Addr} {closure : List (Str × Addr)} {qual : Str} {func : Option Addr} {code : Value} {around : Env} {builtins : Addr} {Q : Env → Shared → Prop}
    (h : Q (newEnv scope s.heap.objs.size globals (cellsFrom (s.heap.objs.size + 1) scope.names closure) qual func code (some around) builtins)
      { s with heap := pushCells (s.heap.push { cls := .type "dict", data := .dict #[] }) scope.names }) :
    wpAny M A (newFunctionEnv scope globals closure [] qual func code (some around) builtins) Q E s := by
  simp only [newFunctionEnv, Option.isSome_some, if_true]
  refine wpAny_bind (wpAny_alloc ?_)
  refine wpAny_bind (wpAny_layCells _ (fun n k c => rfl) scope.names closure _ _ ?_)
  rw [show ({ s with heap := s.heap.push { cls := .type "dict", data := .dict #[] } } : Shared).heap.objs.size = s.heap.objs.size + 1 from Heap.size_push ..]
  rw [List.forIn_nil]
  exact wpAny_bind (wpAny_pure (wpAny_pure h))
theorem lookup_relS {sc : Scope} : ∀ {names : List (Str × NameKind)} {x : Str} {k : NameKind},
    (names.map fun (n, k) => if (k == NameKind.free && sc.kind == .function && sc.names.lookup n == some .cell) then (n, NameKind.cell) else (n, k)).lookup x = some k →
    ∃ k', names.lookup x = some k' ∧ (k = k' ∨ (k' = .free ∧ k = .cell))
  | [], _, _, h => by simp at h
  | (n, k₀) :: r, x, k, h => by
    have ih := @lookup_relS sc r x k
    have h' : List.lookup x ((if (k₀ == NameKind.free && sc.kind == .function && sc.names.lookup n == some .cell) = true then (n, NameKind.cell) else (n, k₀)) :: (r.map _)) = some k := h
    cases hx : x == n with
    | true =>
      simp only [List.lookup_cons, hx]
      by_cases hc : (k₀ == NameKind.free && sc.kind == .function && sc.names.lookup n == some .cell) = true
      · rw [if_pos hc] at h'
        simp only [List.lookup_cons, hx] at h'
        cases h'
        simp only [Bool.and_eq_true, beq_iff_eq] at hc
        exact ⟨k₀, rfl, .inr ⟨hc.1.1, rfl⟩⟩
      · rw [if_neg hc] at h'
        simp only [List.lookup_cons, hx] at h'
        cases h'
        exact ⟨_, rfl, .inl rfl⟩
    | false =>
      simp only [List.lookup_cons, hx]
      by_cases hc : (k₀ == NameKind.free && sc.kind == .function && sc.names.lookup n == some .cell) = true
      · rw [if_pos hc] at h'
        simp only [List.lookup_cons, hx] at h'
        exact ih h'
      · rw [if_neg hc] at h'
        simp only [List.lookup_cons, hx] at h'
        exact ih h'
structure BlkOk (N : List Str) (sc scope : Scope) (own : List (Str × Nat)) : Prop where
  kind : scope.kind = .function
  uniq : ∀ y ∈ scope.names, scope.names.lookup y.1 = some y.2
  ix : ∀ p ∈ own, N[p.2]? = some p.1
  free : ∀ y ∈ scope.names, y.2 = .free → sc.names.lookup y.1 = some .cell ∨ sc.names.lookup y.1 = some .free
  own : ∀ y ∈ scope.names, y.2 = .local ∨ y.2 = .cell → y.1 ∈ own.map (·.1) ∨ y.1 ∉ N
def wipe (σ : St) : List Nat → St
  | [] => σ
  | v :: vs => (wipe σ vs).set v none
theorem wipe_length (σ : St) : ∀ vs : List Nat, (wipe σ vs).length = σ.length
  | [] => rfl
  | v :: vs => by unfold wipe; rw [List.length_set, wipe_length σ vs]
theorem wipe_some {σ : St} {i : Nat} {x : V} : ∀ {vs : List Nat}, (wipe σ vs)[i]? = some (some x) → σ[i]? = some (some x) ∧ i ∉ vs
  | [], h => ⟨h, by simp⟩
  | v :: vs, h => by
    unfold wipe at h
    by_cases hi : v = i
    · subst hi
      by_cases hv : v < (wipe σ vs).length
      · rw [List.getElem?_set_self hv] at h; cases h
      · rw [List.getElem?_eq_none (by simpa using hv)] at h; cases h
    · rw [List.getElem?_set_ne hi] at h
      obtain ⟨h1, h2⟩ := wipe_some h
      exact ⟨h1, by simp only [List.mem_cons, not_or]; exact ⟨fun e => hi e.symm, h2⟩⟩
abbrev Cx.blk (X : Cx) (s : Shared) (H : Hp) (scope : Scope) (cenv : Env) (fp : List Addr) : Cx := { X with s_0 := s, H_0 := H, env := cenv, outer := X.stack, ex := fp, fn := fun x => scope.names.lookup x == some .cell, pn := [], xe := fun _ _ => False }
section
variable {X : Cx} {pins : List (Addr × Obj)} {σ : St} {H : Hp} {s : Shared}
theorem block_start {scope : Scope} {own : List (Str × Nat)} {fp : List Addr} (I : Inv X pins σ H s) (ok : BlkOk X.N X.env.scope scope own) (hN : X.N.Nodup) (hfp : ∀ b ∈ fp, FpOk X pins H b ∧ b < s.heap.objs.size) :
    Inv (X.blk s H scope (compEnvC scope (cellsFrom (s.heap.objs.size + 1) scope.names (cloFrom X.env.cells scope.names [])) s.heap.objs.size X.env) fp) [] (wipe σ (own.map (·.2))) H { s with heap := pushCells (s.heap.push { cls := .type "dict", data := .dict #[] }) scope.names } := by
  have hfree : ∀ y ∈ scope.names, y.2 = .free → ∃ c, X.env.cells.lookup y.1 = some c := fun y hy e => by
    rcases ok.free y hy e with k | k
    · exact I.ok.has _ (.inl k)
    · exact I.ok.has _ (.inr k)
  generalize hcenv : compEnvC scope (cellsFrom (s.heap.objs.size + 1) scope.names (cloFrom X.env.cells scope.names [])) s.heap.objs.size X.env = cenv
  have kp : ∀ b o, s.heap.get? b = some o → (pushCells (s.heap.push { cls := .type "dict", data := .dict #[] }) scope.names).get? b = some o := fun b o e => pushCells_keeps _ _ _ _ (Heap.get?_push_of_some _ e)
  have hL : cenv.locals = s.heap.objs.size := by rw [← hcenv]; rfl
  have hcl : cenv.cells = cellsFrom (s.heap.objs.size + 1) scope.names (cloFrom X.env.cells scope.names []) := by rw [← hcenv]; rfl
  have hsc : cenv.scope = relS scope X.env.scope := by rw [← hcenv]; rfl
  rw [← Heap.size_push s.heap { cls := .type "dict", data := .dict #[] }] at hcl
  have cm : ∀ {y c}, (y, c) ∈ cloFrom X.env.cells scope.names [] → X.env.cells.lookup y = some c ∧ c < s.heap.objs.size := fun {y c} hm => by
    rcases cloFrom_mem hm with hm | ⟨h1, rfl⟩
    · cases hm
    · obtain ⟨c, hc⟩ := hfree _ h1 rfl
      rw [hc]
      obtain ⟨w, z⟩ := I.cell _ _ hc
      exact ⟨rfl, z.lt⟩
  have mem : ∀ {y c}, cenv.cells.lookup y = some c → (X.env.cells.lookup y = some c ∧ c < s.heap.objs.size) ∨ (s.heap.objs.size + 1 ≤ c ∧ CellAt (pushCells (s.heap.push { cls := .type "dict", data := .dict #[] }) scope.names) c none) := fun {y c} e => by
    rw [hcl] at e
    rcases cells_mem (PySem.mem_of_lookup e) with hm | ⟨_, h2, h3⟩
    · exact .inl (cm hm)
    · rw [Heap.size_push] at h2; exact .inr ⟨h2, h3⟩
  have look : ∀ {y}, scope.names.lookup y = some .free → ∃ c, cenv.cells.lookup y = some c ∧ X.env.cells.lookup y = some c := fun {y} hl => by
    have hy : (y, NameKind.free) ∈ scope.names := PySem.mem_of_lookup hl
    obtain ⟨c', e'⟩ := mem_lookup (cells_acc (names := scope.names) (n := (s.heap.push { cls := .type "dict", data := .dict #[] }).objs.size) (cloFrom_has (cells := X.env.cells) (acc := []) hy))
    rw [← hcl] at e'
    refine ⟨c', e', ?_⟩
    rw [hcl] at e'
    rcases cells_mem (PySem.mem_of_lookup e') with hm | ⟨h1, _, _⟩
    · exact (cm hm).1
    · have := ok.uniq _ h1
      rw [hl] at this; cases this
  have okB : (X.blk s H scope cenv fp).Ok := by
    refine ⟨I.ok.mod, by show cenv.scope.kind = _; rw [hsc]; exact ok.kind, by show cenv.globals = _; rw [← hcenv]; exact I.ok.glob, by show cenv.builtins = _; rw [← hcenv]; exact I.ok.blt, by show s.heap.objs.size ≤ cenv.locals; rw [hL]; exact Nat.le_refl _,
      fun y z c e1 e2 => ?_, fun y hy => ?_, fun y c z e => ?_, I.ok.hd, I.ok.frames, .inl rfl, fun b hb => ⟨?_, fun y c e z => ?_⟩, I.bs, Nat.le_trans I.ok.bsz I.sz, fun b o e hb => ?_, fun b hb z => ?_, I.stack, I.stkFree⟩
    · have e1 : cenv.cells.lookup y = some c := e1
      have e2 : cenv.cells.lookup z = some c := e2
      rw [hcl] at e1 e2
      refine cells_inj (fun p hp => ?_) (fun y z c a b => I.ok.inj y z c (cm a).1 (cm b).1) (PySem.mem_of_lookup e1) (PySem.mem_of_lookup e2)
      rw [Heap.size_push]
      exact Nat.lt_succ_of_lt (cm (y := p.1) (c := p.2) hp).2
    · show ∃ c, cenv.cells.lookup y = some c
      have key : ∀ k, cenv.kindOf y = some k → (k = .cell ∨ k = .free) → ∃ c, cenv.cells.lookup y = some c := fun k hk hk' => by
        unfold Env.kindOf at hk
        rw [hsc] at hk
        obtain ⟨k', e, r⟩ := lookup_relS hk
        have : k' = .cell ∨ k' = .free := by
          rcases r with rfl | ⟨rfl, _⟩
          · exact hk'
          · exact .inr rfl
        rcases this with rfl | rfl
        · obtain ⟨c, hm⟩ := cells_has (n := (s.heap.push { cls := .type "dict", data := .dict #[] }).objs.size) (acc := cloFrom X.env.cells scope.names []) (PySem.mem_of_lookup e)
          obtain ⟨c', e'⟩ := mem_lookup hm
          exact ⟨c', by rw [hcl]; exact e'⟩
        · obtain ⟨c, h1, _⟩ := look e
          exact ⟨c, h1⟩
      rcases hy with hy | hy
      · exact key _ hy (.inl rfl)
      · exact key _ hy (.inr rfl)
    · have z : (scope.names.lookup y == some NameKind.cell) = true := z
      have z : scope.names.lookup y = some .cell := by simpa using z
      have e : cenv.cells.lookup y = some c := e
      rw [hcl] at e
      rcases cells_mem (PySem.mem_of_lookup e) with hm | ⟨_, h2, _⟩
      · rcases cloFrom_mem hm with hm | ⟨h1, _⟩
        · cases hm
        · have q := ok.uniq _ h1
          rw [z] at q; cases q
      · rw [Heap.size_push] at h2
        exact Nat.le_of_succ_le h2
    · show b ≠ cenv.locals
      rw [hL]; exact Nat.ne_of_lt (hfp b hb).2
    · have e : cenv.cells.lookup y = some c := e
      rcases mem e with ⟨h1, _⟩ | ⟨h1, _⟩
      · exact (hfp b hb).1.2.2.2.2.1 y c h1 z
      · have h2 : s.heap.objs.size + 1 ≤ b := by rw [← z]; exact h1
        exact absurd (Nat.lt_of_lt_of_le (hfp b hb).2 (Nat.le_of_succ_le h2)) (Nat.lt_irrefl _)
    · rcases (hfp b hb).1.2.2.2.1 with z | z
      · exact I.ok.noex b o e z
      · exact absurd (Nat.lt_of_lt_of_le (Heap.lt_size e) (Nat.le_trans I.ok.bsz z)) (Nat.lt_irrefl _)
    · rcases List.mem_cons.mp (I.stkSub b z) with z | z
      · exact (hfp b hb).1.2.1 z
      · exact (hfp b hb).1.2.2.1 z
  refine ⟨okB, rfl, .same rfl rfl, Un.kept kp, ⟨fun _ => none, ?_, fun i y av e1 e2 e3 => ?_⟩, fun y c e => ?_, ?_, fun y c e => ?_, fun p hp => ?_, I.hok.kept kp, by rw [wipe_length]; exact I.len⟩
  · show Heap.Ns _ cenv.locals _
    rw [hL]
    exact Heap.Ns.keeps (Heap.Ns.new ..) fun b o e => pushCells_keeps _ _ _ _ e
  · obtain ⟨e2, hne⟩ := wipe_some e2
    have hfr : scope.names.lookup y = some .free ∧ (cenv.kindOf y = some .cell ∨ cenv.kindOf y = some .free) := by
      have key : ∀ k, cenv.scope.names.lookup y = some k → k = .local ∨ k = .cell ∨ k = .free → scope.names.lookup y = some .free ∧ (cenv.kindOf y = some .cell ∨ cenv.kindOf y = some .free) := fun k hk hk' => by
        have hk0 := hk
        rw [hsc] at hk
        obtain ⟨k', e, r⟩ := lookup_relS hk
        have no : ¬ (k' = .local ∨ k' = .cell) := fun hh => by
          rcases ok.own _ (PySem.mem_of_lookup e) hh with e' | e'
          · obtain ⟨p, hp, hpy⟩ := List.mem_map.mp e'
            have e3 := ok.ix p hp
            have : p.1 = y := hpy
            rw [this] at e3
            exact hne (List.mem_map.mpr ⟨p, hp, nodup_ix hN e3 e1⟩)
          · exact e' (List.mem_of_getElem? e1)
        rcases r with rfl | ⟨rfl, rfl⟩
        · rcases hk' with rfl | rfl | rfl
          · exact absurd (.inl rfl) no
          · exact absurd (.inr rfl) no
          · exact ⟨e, .inr hk0⟩
        · exact ⟨e, .inl hk0⟩
      have e3 : Vis cenv.scope y := e3
      rcases e3 with e3 | e3 | e3
      · exact key _ e3 (.inl rfl)
      · exact key _ e3 (.inr (.inl rfl))
      · exact key _ e3 (.inr (.inr rfl))
    obtain ⟨m, hn, hl⟩ := I.loc
    have hvis : Vis X.env.scope y := (ok.free _ (PySem.mem_of_lookup hfr.1) rfl).elim (fun k => .inr (.inl k)) (fun k => .inr (.inr k))
    obtain ⟨w, r, q⟩ := hl i y av e1 e2 hvis
    refine ⟨w, r, .inr ⟨hfr.2, ?_⟩⟩
    obtain ⟨c, h1, h2⟩ := look hfr.1
    rcases q with ⟨k, _⟩ | ⟨_, c', e', z⟩
    · have k : X.env.scope.names.lookup y = some .local := k
      rcases ok.free _ (PySem.mem_of_lookup hfr.1) rfl with k' | k' <;> rw [show X.env.scope.names.lookup y = _ from k'] at k <;> cases k
    · rw [h2] at e'; cases e'
      exact ⟨c, h1, z.keeps kp⟩
  · have e : cenv.cells.lookup y = some c := e
    rcases mem e with ⟨h1, _⟩ | ⟨_, z⟩
    · obtain ⟨w, z⟩ := I.cell y c h1
      exact ⟨w, z.keeps kp⟩
    · exact ⟨_, z⟩
  · show H cenv.locals = none
    rw [hL]; exact I.hok.fresh (Nat.le_refl _)
  · have e : cenv.cells.lookup y = some c := e
    rcases mem e with ⟨h1, _⟩ | ⟨h1, _⟩
    · exact I.freeC y c h1
    · exact I.hok.fresh (Nat.le_of_succ_le h1)
  · exact absurd (show p ∈ ([] : List (Addr × Obj)) ++ [] from hp) (by simp)
theorem app_ok {E : Value → Shared → Prop} {D : Addr} {xs : List V} {y : V} {v : Value} {Q : Value → Shared → Prop} (I : Inv X pins σ H s) (hD : H D = some (.lst xs)) (hz : xs.length < sizeLine) (r : RelV y v)
    (h : ∀ s', Inv X pins σ (upd H D (.lst (xs ++ [y]))) s' → Q .none s') : wpAny (model X.prog X.w) X.A (call (.builtin "list.append") [.ref D, v]) Q E s := by
  obtain ⟨hz', its, n, ri, e⟩ := I.hok D _ hD
  have hl := ri.length
  refine append_at (hsz := by rw [List.size_toArray]; omega) e fun h' sb ho' => ?_
  refine h { s with heap := h' } (I.write (t' := s.toks) (by rw [hD]; trivial) (.inl rfl) (fun b u hb q => (sb.2 b hb).trans q) ⟨_, ho'⟩ ⟨by rw [List.length_append]; exact hz, its ++ [v], n + 1, ri.append (.cons r .nil), ?_⟩)
  rw [ho']
  simp
def PTs (X : Cx) (ifs : List Expr) (t : TT) : Prop :=
  ∀ (pins : List (Addr × Obj)) (s : Shared) (σ : St) (H : Hp) (Q : Bool → Hp → Prop), Inv X pins σ H s → t σ H Q →
    wpAny (model X.prog X.w) X.A (forIn ifs true fun c r => if r = true then do let ok ← isTrue c X.env (eval c X.env); pure (ForInStep.yield ok) else pure (ForInStep.yield r)) (TP X pins σ Q) X.xe s
def tYes : TT := fun _ H Q => Q true H
theorem pts_nil : PTs X [] tYes := fun _ _ _ H _ I h => wpAny_tests_nil ⟨H, I, h⟩
theorem pts_one {c : Expr} {t : TT} (h : PT X c t) : PTs X [c] t := fun pins s σ H Q I hw => wpAny_tests_one (h pins s σ H Q I hw)
end
theorem thnF {α : Type} {t : Sem α} {Q Q' : α → Shared → Prop} {M : Model} {A : Around} {E : Value → Shared → Prop} {s : Shared} (h : wpAny M A t Q (fun _ _ => False) s) (hQ : ∀ a s, Q a s → Q' a s) : wpAny M A t Q' E s := wpAny_mono h hQ fun _ _ z => False.elim z
theorem compLoop_any {prog : Program} {w : World} {A : Around} {R : Result → Shared → Prop} {s : Shared} {elt target iter : Expr} {ifs : List Expr} {scope : Scope} {pos : Pos} {it acc : Value} {env : Env} (I : Nat → Shared → Prop)
    (turn : ∀ n s, I n s → wpAny (model prog w) A (pyNext it) (fun r s₁ => match r with
      | none => R (.ok .next) s₁
      | some v => wpAny (model prog w) A (letOwnedTupleGo target it v) (fun _ s₁' => wpAny (model prog w) A (assign target env v) (fun _ s₂ =>
          wpAny (model prog w) A (forIn ifs true fun c r => if r = true then do let ok ← isTrue c env (eval c env); pure (ForInStep.yield ok) else pure (ForInStep.yield r)) (fun ok s₃ =>
            if ok = true then wpAny (model prog w) A (eval elt env) (fun x s₄ =>
              wpAny (model prog w) A (call (.builtin "list.append") [acc, x]) (fun _ s₅ => ∃ m, m < n ∧ I m s₅) (notedBy (model prog w) A env fun e s' => R (.error e) s') s₄) (notedBy (model prog w) A env fun e s' => R (.error e) s') s₃
            else ∃ m, m < n ∧ I m s₃) (notedBy (model prog w) A env fun e s' => R (.error e) s') s₂) (notedBy (model prog w) A env fun e s' => R (.error e) s') s₁') (notedBy (model prog w) A env fun e s' => R (.error e) s') s₁) (notedBy (model prog w) A env fun e s' => R (.error e) s') s)
    (n : Nat) (h : I n s) :
    codeAny (model prog w) A (.compLoop (.ListComp elt [⟨target, iter, ifs, 0⟩] scope pos) 0 it acc env) R s := by
  refine codeAny_loop rfl I (fun n s hI => ?_) n h
  show wpAny _ A ((compTurn (.ListComp elt [⟨target, iter, ifs, 0⟩] scope pos) 0 it acc env).onRaise (fun x => do noteFrame x env; theTreesLotGoes x)) _ _ s
  refine wpAny_noted ?_
  rw [compTurn_list]
  refine wpAny_bind (wpAny_standAt (wpAny_bind (wpAny_mono (turn n s hI) (fun r s₁ h₁ => ?_) fun _ _ h' => h')))
  cases r with
  | none => exact wpAny_pure h₁
  | some v =>
    refine wpAny_bind (wpAny_mono h₁ (fun _ s₁' h₁' => ?_) fun _ _ h' => h')
    refine wpAny_bind (wpAny_mono h₁' (fun _ s₂ h₂ => wpAny_bind (wpAny_mono h₂ (fun ok s₃ h₃ => ?_) fun _ _ h' => h')) fun _ _ h' => h')
    cases ok with
    | false => exact wpAny_pure ⟨rfl, h₃⟩
    | true =>
      exact wpAny_bind (wpAny_bind (wpAny_mono h₃ (fun x s₄ h₄ => wpAny_bind (wpAny_mono h₄ (fun _ s₅ h₅ => wpAny_pure (wpAny_pure ⟨rfl, h₅⟩)) fun _ _ h' => h')) fun _ _ h' => h'))
section
variable {X : Cx}
def tLc (wi : TI) (g : TG) (tt : TT) (te : TE) (vs : List Nat) : TE := fun σ H Q => wi σ H fun J H1 => ∀ D, H1 D = none → ∃ W : Nat → Nat → Hp → Prop, (∃ m, W 0 m (upd H1 D (.lst []))) ∧ ∀ i m H, W i m H →
  (J.stop i H ∧ Q (.ref D) H) ∨ (J.go i H ∧ ∃ Nx : Hp → Prop, (∀ H', Nx H' → ∃ m', m' < m ∧ W (i + 1) m' H') ∧ ∀ x H', J.yld i H x H' → g x (wipe σ vs) H' fun σ2 H2 => wipe σ2 vs = wipe σ vs ∧ tt σ2 H2 fun b H3 =>
    if b = true then te σ2 H3 fun y H4 => ∃ acc, H4 D = some (.lst acc) ∧ acc.length < sizeLine ∧ Nx (upd H4 D (.lst (acc ++ [y]))) else Nx H3)
theorem lc_core {pins : List (Addr × Obj)} {s : Shared} {σ : St} {H : Hp} {Q : VK} {elt tg iter : Expr} {ifs : List Expr} {scope : Scope} {own : List (Str × Nat)} {pos pos' : Pos} {wi : TI} {g : TG} {tt : TT} {te : TE} {use : Option (Value → Sem Unit)} {Qf : Value → Shared → Prop}
    (hc : X.calm = true) (hN : X.N.Nodup) (I : Inv X pins σ H s) (hi : PI X tg iter wi) (ok : BlkOk X.N X.env.scope scope own)
    (hg : ∀ (s : Shared) (H : Hp) (C : Addr) (cl : List (Str × Addr)) (fp : List Addr), PG (X.blk s H scope (compEnvC scope cl C X.env) fp) tg g) (ht : ∀ (s : Shared) (H : Hp) (C : Addr) (cl : List (Str × Addr)) (fp : List Addr), PTs (X.blk s H scope (compEnvC scope cl C X.env) fp) ifs tt)
    (he : ∀ (s : Shared) (H : Hp) (C : Addr) (cl : List (Str × Addr)) (fp : List Addr), PE (X.blk s H scope (compEnvC scope cl C X.env) fp) elt te) (hs : ∀ x, foldedSetIterable iter X.env x = pure x)
    (h : tLc wi g tt te (own.map (·.2)) σ H Q)
    (hRR : ∀ D C s' m H', Inv X pins σ H' s' → Q (.ref D) H' → s'.heap.Ns C m → FpOk X pins H' C → compPost (model X.prog X.w) X.A X.xe use Qf (.ref D) C (.ok .next) s') :
    wpAny (model X.prog X.w) X.A (comprehension (.ListComp elt [⟨tg, iter, ifs, 0⟩] scope pos) scope X.env pos' (newList []) false (eval iter X.env) use) Qf X.xe s := by
  have hfree : ∀ y ∈ scope.names, y.2 = .free → ∃ c, X.env.cells.lookup y.1 = some c := fun y hy e => by
    rcases ok.free y hy e with k | k
    · exact I.ok.has _ (.inl k)
    · exact I.ok.has _ (.inr k)
  refine wpAny_comprehension_free (use := use) rfl hs (closure_ok hfree) ok.kind (fun y hy e => by rw [ok.uniq y hy, e])
    (thn (hi pins s σ H _ I h) fun xv s1 hx => thn hx fun itv s2 h2 => ?_)
  obtain ⟨it, fp, tn, J, H2, e, I2, T, st2, f2, q⟩ := h2
  subst e
  refine wpAny_newObj_type (newEnv_comp ?_) (by show 0 ≤ sizeLine; decide)
  generalize hD : s2.heap.objs.size = D
  have hDn : H2 D = none := I2.hok.fresh (Nat.le_of_eq hD)
  obtain ⟨W, ⟨m0, w0⟩, turn⟩ := q D hDn
  -- the new list
  generalize hs3 : ({ s2 with heap := s2.heap.push { cls := .type "list", data := .seq ([] : List Value).toArray } } : Shared) = s3
  have I3 : Inv X pins σ (upd H2 D (.lst [])) s3 := by
    rw [← hs3]
    refine I2.laid (t' := s2.toks) (fun b o e => Heap.get?_push_of_some _ e) (Nat.le_of_eq hD) ⟨Nat.zero_le _, [], 0, .nil, ?_⟩
    rw [← hD]
    exact Heap.get?_push_size _ rfl
  have h3 : s3.heap = s2.heap.push { cls := .type "list", data := .seq ([] : List Value).toArray } := by rw [← hs3]
  have sz : ∀ b ∈ fp, b < s2.heap.objs.size := fun b hb => by
    obtain ⟨o, e, _⟩ := T.obj _ _ st2 b hb
    exact Heap.lt_size e
  have f3 : ∀ b ∈ fp, FpOk X pins (upd H2 D (.lst [])) b ∧ b < s3.heap.objs.size := fun b hb => by
    have hlt := sz b hb
    refine ⟨⟨?_, (f2 b hb).2⟩, by rw [h3, Heap.size_push]; exact Nat.lt_succ_of_lt hlt⟩
    rw [upd_ne (by rw [← hD]; exact Nat.ne_of_lt hlt)]
    exact (f2 b hb).1
  have st3 : tn 0 s3.heap := T.keep _ _ _ st2 fun b _ o e => by rw [h3]; exact Heap.get?_push_of_some _ e
  have I4 := block_start I3 ok hN f3
  have pg := hg s3 (upd H2 D (.lst [])) s3.heap.objs.size (cellsFrom (s3.heap.objs.size + 1) scope.names (cloFrom X.env.cells scope.names [])) fp
  have pt := ht s3 (upd H2 D (.lst [])) s3.heap.objs.size (cellsFrom (s3.heap.objs.size + 1) scope.names (cloFrom X.env.cells scope.names [])) fp
  have pe := he s3 (upd H2 D (.lst [])) s3.heap.objs.size (cellsFrom (s3.heap.objs.size + 1) scope.names (cloFrom X.env.cells scope.names [])) fp
  show codeAny _ _ (.compStart (.ListComp elt [⟨tg, iter, ifs, 0⟩] scope pos) 0 (.ref it) (.ref D) (compEnvC scope (cellsFrom (s3.heap.objs.size + 1) scope.names (cloFrom X.env.cells scope.names [])) s3.heap.objs.size X.env)) (compPost (model X.prog X.w) X.A X.xe use Qf (.ref D) s3.heap.objs.size) { s3 with heap := pushCells (s3.heap.push { cls := .type "dict", data := .dict #[] }) scope.names }
  have nfp : ∀ b ∈ fp, (upd H2 D (.lst [])) b = none := fun b hb => (f3 b hb).1.1
  generalize hce : compEnvC scope (cellsFrom (s3.heap.objs.size + 1) scope.names (cloFrom X.env.cells scope.names [])) s3.heap.objs.size X.env = ce at I4 pg pt pe ⊢
  have cL : ce.locals = s3.heap.objs.size := by subst hce; rfl
  generalize hH3 : upd H2 D (.lst []) = H3 at I3 I4 pg pt pe w0 nfp f3
  generalize hs4 : ({ s3 with heap := pushCells (s3.heap.push { cls := .type "dict", data := .dict #[] }) scope.names } : Shared) = s4 at I4 ⊢
  have st4 : tn 0 s4.heap := T.keep _ _ _ st3 fun b _ o e => by rw [← hs4]; exact pushCells_keeps _ _ _ _ (Heap.get?_push_of_some _ e)
  have stat : ∀ {σ' : St} {H' : Hp} {s' : Shared}, Inv (X.blk s3 H3 scope ce fp) [] σ' H' s' → (∀ b ∈ fp, H' b = none) → ∀ b ∈ fp, FpOk (X.blk s3 H3 scope ce fp) [] H' b := fun {σ' H' s'} I' hn b hb =>
    ⟨hn b hb, (I'.ok.exf b hb).1, I'.ok.exfs b hb, .inl hb, fun x c e => (I'.ok.exf b hb).2 x c e, fun p hp => absurd (show p ∈ ([] : List (Addr × Obj)) ++ [] from hp) (by simp)⟩
  have loop : codeAny (model X.prog X.w) X.A (.compLoop (.ListComp elt [⟨tg, iter, ifs, 0⟩] scope pos) 0 (.ref it) (.ref D) ce) (compPost (model X.prog X.w) X.A X.xe use Qf (.ref D) s3.heap.objs.size) s4 := by
    refine compLoop_any (fun n s' => ∃ i H', Inv (X.blk s3 H3 scope ce fp) [] (wipe σ (own.map (·.2))) H' s' ∧ tn i s'.heap ∧ (∀ b ∈ fp, H' b = none) ∧ W i n H') ?_ m0 ⟨0, H3, I4, st4, nfp, w0⟩
    rintro n s5 ⟨i, H5, I5, st5, n5, w5⟩
    rcases turn i n H5 w5 with ⟨stop, qq⟩ | ⟨go, Nx, hNx, step⟩
    · have td := T.done (X.blk s3 H3 scope ce fp) rfl rfl rfl hc i [] s5 _ H5 (fun _ _ => False) I5 (stat I5 n5) st5 stop
      refine thnF td fun r s6 ⟨hr, I6⟩ => ?_
      subst hr
      -- back in the def's context
      have I7 : Inv X pins σ H5 s6 := I3.call' (ch := fp) I6.os I6.base I6.hok I6.bare fun b hb => ⟨(f3 b hb).1.2.2.2.1, (f3 b hb).1.2.1, (f3 b hb).1.2.2.2.2.1, (f3 b hb).1.2.2.2.2.2⟩
      have nC : H5 s3.heap.objs.size = none := by
        have z : H5 ce.locals = none := I6.free
        rw [cL] at z
        exact z
      obtain ⟨m, hn, _⟩ := I6.loc
      have hn : s6.heap.Ns ce.locals m := hn
      rw [cL] at hn
      exact hRR D s3.heap.objs.size s6 m H5 I7 qq hn (I3.fpOk (Nat.le_refl _) nC)
    · have ti := T.item (X.blk s3 H3 scope ce fp) rfl rfl rfl hc i [] s5 _ H5 (fun _ _ => False) I5 (stat I5 n5) st5 go
      refine thnF ti fun r s6 ⟨u, hr, h6⟩ => ?_
      subst hr
      refine thnF h6 fun _ s7 ⟨x, H7, I7, r7, y7, st7, n7⟩ => ?_
      have I7' := I7.pinned (stat I7 n7) (T.obj _ _ st7)
      refine thnF (pg _ s7 _ H7 x u _ I7' r7 (step x H7 y7)) fun _ s8 ⟨σ8, H8, I8, hw8, q8⟩ => ?_
      refine thnF (pt _ s8 σ8 H8 _ I8 q8) fun b s9 ⟨H9, I9, q9⟩ => ?_
      -- the turn's end
      have fin : ∀ {s' : Shared} {H' : Hp}, Inv (X.blk s3 H3 scope ce fp) ([] ++ pinsAt fp s7.heap) σ8 H' s' → Nx H' → ∃ m, m < n ∧ ∃ i H', Inv (X.blk s3 H3 scope ce fp) [] (wipe σ (own.map (·.2))) H' s' ∧ tn i s'.heap ∧ (∀ b ∈ fp, H' b = none) ∧ W i m H' := fun {s' H'} I' nx => by
        obtain ⟨m', hm, w'⟩ := hNx H' nx
        have pin' : ∀ b ∈ fp, ∀ o, s7.heap.get? b = some o → s'.heap.get? b = some o ∧ H' b = none := fun b hb o e =>
          let z := I'.pin (b, o) (List.mem_append_right _ (List.mem_append_right _ (mem_pinsAt hb e)))
          ⟨z.1, z.2.1⟩
        have hl : (wipe σ (own.map (·.2))).length = σ8.length := by rw [← hw8, wipe_length]
        refine ⟨m', hm, i + 1, H', (I'.unpinned (pins := [])).weak hl (fun j v e => ?_), T.keep _ _ _ st7 fun b hb o e => (pin' b hb o e).1, fun b hb => ?_, w'⟩
        · rw [← hw8] at e
          exact (wipe_some e).1
        · obtain ⟨o, e, _⟩ := T.obj _ _ st7 b hb
          exact (pin' b hb o e).2
      cases b with
      | false =>
        simp only [Bool.false_eq_true, if_false] at q9 ⊢
        exact fin I9 q9
      | true =>
        simp only [if_true] at q9 ⊢
        refine thnF (pe _ s9 σ8 H9 _ I9 q9) fun z s10 ⟨yv, H10, I10, r10, acc, hD10, hz10, nx⟩ => ?_
        exact app_ok (X := X.blk s3 H3 scope ce fp) I10 hD10 hz10 r10 fun s11 I11 => fin I11 nx
  exact codeAny_compStart_list loop (T.self X.A 0 _ _ _ st4 loop)
theorem pe_lc {elt tg iter : Expr} {ifs : List Expr} {scope : Scope} {own : List (Str × Nat)} {pos : Pos} {wi : TI} {g : TG} {tt : TT} {te : TE} (hc : X.calm = true) (hN : X.N.Nodup) (hi : PI X tg iter wi) (ok : BlkOk X.N X.env.scope scope own)
    (hg : ∀ (s : Shared) (H : Hp) (C : Addr) (cl : List (Str × Addr)) (fp : List Addr), PG (X.blk s H scope (compEnvC scope cl C X.env) fp) tg g) (ht : ∀ (s : Shared) (H : Hp) (C : Addr) (cl : List (Str × Addr)) (fp : List Addr), PTs (X.blk s H scope (compEnvC scope cl C X.env) fp) ifs tt)
    (he : ∀ (s : Shared) (H : Hp) (C : Addr) (cl : List (Str × Addr)) (fp : List Addr), PE (X.blk s H scope (compEnvC scope cl C X.env) fp) elt te) (hs : ∀ x, foldedSetIterable iter X.env x = pure x := by intro _; rfl) :
    PE X (.ListComp elt [⟨tg, iter, ifs, 0⟩] scope pos) (tLc wi g tt te (own.map (·.2))) := by
  intro pins s σ H Q I h
  rw [eval_ListComp]
  refine lc_core hc hN I hi ok hg ht he hs h fun D C s' m H' I' q hn f => ⟨m, hn, fun h'' sb => ?_⟩
  obtain ⟨f0, f1, f2, f3, f4, f5⟩ := f
  exact ⟨.ref D, H', I'.turned (t' := s'.toks) (fun b o hb e => (sb.2 b hb).trans e) f0 f1 f3 f4 f5, rfl, q⟩
theorem ps_setLc {i : Nat} {y : Str} {py : Pos} {elt tg iter : Expr} {ifs : List Expr} {scope : Scope} {own : List (Str × Nat)} {pos spos : Pos} {wi : TI} {g : TG} {tt : TT} {te : TE} (hc : X.calm = true) (hN : X.N.Nodup) (hy : X.N[i]? = some y) (hyl : X.env.scope.names.lookup y = some .local)
    (hsw : swapsWith (.ListComp elt [⟨tg, iter, ifs, 0⟩] scope pos) (some (.Name y py)) spos.line X.env = pure true) (hi : PI X tg iter wi) (ok : BlkOk X.N X.env.scope scope own)
    (hg : ∀ (s : Shared) (H : Hp) (C : Addr) (cl : List (Str × Addr)) (fp : List Addr), PG (X.blk s H scope (compEnvC scope cl C X.env) fp) tg g) (ht : ∀ (s : Shared) (H : Hp) (C : Addr) (cl : List (Str × Addr)) (fp : List Addr), PTs (X.blk s H scope (compEnvC scope cl C X.env) fp) ifs tt)
    (he : ∀ (s : Shared) (H : Hp) (C : Addr) (cl : List (Str × Addr)) (fp : List Addr), PE (X.blk s H scope (compEnvC scope cl C X.env) fp) elt te) (hs : ∀ x, foldedSetIterable iter X.env x = pure x := by intro _; rfl) :
    PS X (.Assign [.Name y py] (.ListComp elt [⟨tg, iter, ifs, 0⟩] scope pos) spos) (tAsg (tLc wi g tt te (own.map (·.2))) (gName i)) := by
  intro pins s σ H D I h
  rw [exec_Assign_Name_used _ _ _ _ hsw]
  refine wpAny_bind (wpAny_standAt (wpAny_bind ?_))
  show wpAny _ X.A (do let _ ← comprehension (.ListComp elt [⟨tg, iter, ifs, 0⟩] scope pos) scope X.env (firstIterPos [⟨tg, iter, ifs, 0⟩] pos) (newList []) false (eval iter X.env) (some (assign (.Name y py) X.env))) _ _ s
  have h : tLc wi g tt te (own.map (·.2)) σ H (fun x H1 => gName i x σ H1 D.nx) := h
  refine wpAny_bind (thn (lc_core (Qf := fun _ s' => SP X pins D .next s') hc hN I hi ok hg ht he hs h fun L C s' m H' I' q hn f => ?_) fun _ s' hq => wpAny_pure (wpAny_pure hq))
  show wpAny _ _ (assign (.Name y py) X.env (.ref L)) _ _ _
  refine wpAny_assign_Name (store_ok2 (v := V.ref L) I' hN hy (.inl hyl) rfl (fun s2 I2 ⟨a, sb, ha⟩ => ?_) (.inr hyl))
  obtain ⟨f0, f1, f2, f3, f4, f5⟩ := f
  have haC : C ≠ a := by
    rcases ha with z | z
    · rw [z]; exact f1
    · exact fun e => f4 y a z e.symm
  refine ⟨m, hn.sameBut sb haC, fun h3 sb3 => ?_⟩
  exact ⟨_, H', I2.turned (t' := s2.toks) (fun b o hb e => (sb3.2 b hb).trans e) f0 f1 f3 f4 f5, q⟩
end
def blkC (N : List Str) (sc scope : Scope) (own : List (Str × Nat)) : Bool :=
  (match scope.kind with | .function => true | _ => false) && (scope.names.all fun y => decide (scope.names.lookup y.1 = some y.2)) && (own.all fun p => decide (N[p.2]? = some p.1)) &&
    (scope.names.all fun y => match y.2 with
      | .free => (match sc.names.lookup y.1 with | some .cell => true | some .free => true | _ => false)
      | .local => decide (y.1 ∈ own.map (·.1)) || decide (y.1 ∉ N)
      | .cell => decide (y.1 ∈ own.map (·.1)) || decide (y.1 ∉ N)
      | _ => true)
theorem blkOk_by {N : List Str} {sc scope : Scope} {own : List (Str × Nat)} (h : blkC N sc scope own = true) : BlkOk N sc scope own := by
  unfold blkC at h
  simp only [Bool.and_eq_true, List.all_eq_true, decide_eq_true_eq] at h
  obtain ⟨⟨⟨h1, h2⟩, h3⟩, h4⟩ := h
  refine ⟨?_, h2, h3, fun y hy e => ?_, fun y hy e => ?_⟩
  · split at h1
    · assumption
    · cases h1
  · have q := h4 y hy
    simp only [e] at q
    split at q <;> first | exact .inl (by assumption) | exact .inr (by assumption) | cases q
  · have q := h4 y hy
    rcases e with e | e <;> (simp only [e, Bool.or_eq_true, decide_eq_true_eq] at q; exact q)
end L2
namespace L2
open PySem PySem.Spec PyProof.Rows
section
variable {prog : Program} {w : World} {A : Around} {R : Result → Shared → Prop} {s : Shared} {elt t0 i0 t1 i1 : Expr} {ifs0 ifs1 : List Expr} {scope : Scope} {pos : Pos} {it acc : Value} {env : Env}
end
section
variable {X : Cx}
end
end L2
namespace L2
open PySem PySem.Spec PyProof.Rows
section
variable {κ : Type} [DecidableEq κ]
def valV (kvs : List (κ × V)) (k : κ) : Option V := (kvs.find? fun kv => decide (kv.1 = k)).map (·.2)
def putK (kvs : List (κ × V)) (k : κ) (v : V) : List (κ × V) :=
  if (kvs.any fun kv => decide (kv.1 = k)) = true then kvs.map (fun kv => if kv.1 = k then (kv.1, v) else kv) else kvs ++ [(k, v)]
def dropK (kvs : List (κ × V)) (k : κ) : List (κ × V) := kvs.filter fun kv => decide (kv.1 ≠ k)
theorem valV_pos {p : κ × V} {r : List (κ × V)} {k : κ} (e : p.1 = k) : valV (p :: r) k = some p.2 := by simp [valV, List.find?_cons, e]
theorem valV_neg {p : κ × V} {r : List (κ × V)} {k : κ} (e : ¬ p.1 = k) : valV (p :: r) k = valV r k := by simp [valV, List.find?_cons, e]
theorem valV_any (k : κ) : ∀ kvs : List (κ × V), (kvs.any fun kv => decide (kv.1 = k)) = (valV kvs k).isSome
  | [] => rfl
  | p :: r => by
    rw [List.any_cons]
    by_cases e : p.1 = k
    · simp only [valV_pos e, decide_eq_true e, Bool.true_or, Option.isSome_some]
    · rw [valV_neg e, decide_eq_false e, Bool.false_or]; exact valV_any k r
theorem length_putK (kvs : List (κ × V)) (k : κ) (v : V) : (putK kvs k v).length ≤ kvs.length + 1 := by
  unfold putK
  split
  · rw [List.length_map]; omega
  · rw [List.length_append, List.length_cons, List.length_nil]; omega
theorem RelO.isSome_eq {o : Option V} {u : Option Value} (r : RelO o u) : o.isSome = u.isSome := by
  cases o with
  | none => cases u with
    | none => rfl
    | some _ => exact (show False from r).elim
  | some _ => cases u with
    | none => exact (show False from r).elim
    | some _ => rfl
theorem RelO.getD {o : Option V} {u : Option Value} {d : V} {d' : Value} (r : RelO o u) (rd : RelV d d') : RelV (o.getD d) (u.getD d') := by
  cases o with
  | none => cases u with
    | none => exact rd
    | some _ => exact (show False from r).elim
  | some _ => cases u with
    | none => exact (show False from r).elim
    | some _ => exact r
theorem KV.val {kvs : List (κ × V)} {vs : List (κ × Value)} (r : KV kvs vs) (k : κ) : RelO (valV kvs k) (valueAt vs k) := by
  unfold KV at r
  induction r with
  | nil => exact True.intro
  | @cons p q ps qs h t ih =>
    obtain ⟨h1, h2⟩ := h
    by_cases e : p.1 = k
    · have e' : q.1 = k := h1.symm.trans e
      have b : valueAt (q :: qs) k = some q.2 := by simp [valueAt, List.find?_cons, e']
      rw [valV_pos e, b]; exact h2
    · have e' : ¬ q.1 = k := fun z => e (h1.trans z)
      have b : valueAt (q :: qs) k = valueAt qs k := by simp [valueAt, List.find?_cons, e']
      rw [valV_neg e, b]; exact ih
theorem KV.any {kvs : List (κ × V)} {vs : List (κ × Value)} (r : KV kvs vs) (k : κ) : (kvs.any fun kv => decide (kv.1 = k)) = vs.any fun kv => decide (kv.1 = k) := by
  unfold KV at r
  induction r with
  | nil => rfl
  | cons h t ih => rw [List.any_cons, List.any_cons, ih, h.1]
theorem KV.repl {kvs : List (κ × V)} {vs : List (κ × Value)} (r : KV kvs vs) (k : κ) {y : V} {u : Value} (ry : RelV y u) :
    KV (kvs.map fun kv => if kv.1 = k then (kv.1, y) else kv) (vs.map fun kv => if kv.1 = k then (kv.1, u) else kv) := by
  unfold KV at r ⊢
  induction r with
  | nil => exact .nil
  | @cons p q ps qs h t ih =>
    rw [List.map_cons, List.map_cons]
    refine .cons ?_ ih
    obtain ⟨h1, h2⟩ := h
    by_cases e : p.1 = k
    · rw [if_pos e, if_pos (h1.symm.trans e)]; exact ⟨h1, ry⟩
    · rw [if_neg e, if_neg (fun z => e (h1.trans z))]; exact ⟨h1, h2⟩
theorem KV.put {kvs : List (κ × V)} {vs : List (κ × Value)} (r : KV kvs vs) (k : κ) {y : V} {u : Value} (ry : RelV y u) : KV (putK kvs k y) (stored vs k u) := by
  unfold putK stored
  rw [r.any k]
  by_cases e : (vs.any fun kv => decide (kv.1 = k)) = true
  · rw [if_pos e, if_pos e]; exact r.repl k ry
  · rw [if_neg e, if_neg e]; exact Paired.snoc r ⟨rfl, ry⟩
theorem KV.drop {kvs : List (κ × V)} {vs : List (κ × Value)} (r : KV kvs vs) (k : κ) : KV (dropK kvs k) (without vs k) := by
  unfold KV at r ⊢
  unfold dropK without
  induction r with
  | nil => exact .nil
  | @cons p q ps qs h t ih =>
    obtain ⟨h1, h2⟩ := h
    rw [List.filter_cons, List.filter_cons]
    by_cases e : p.1 = k
    · have a : ¬ decide (p.1 ≠ k) = true := by simp [e]
      have b : ¬ decide (q.1 ≠ k) = true := by simp [h1.symm.trans e]
      rw [if_neg a, if_neg b]; exact ih
    · have e' : ¬ q.1 = k := fun z => e (h1.trans z)
      have a : decide (p.1 ≠ k) = true := by simp [e]
      have b : decide (q.1 ≠ k) = true := by simp [e']
      rw [if_pos a, if_pos b]; exact .cons ⟨h1, h2⟩ ih
theorem KV.keys {kvs : List (κ × V)} {vs : List (κ × Value)} (r : KV kvs vs) : kvs.map (·.1) = vs.map (·.1) := by
  unfold KV at r
  induction r with
  | nil => rfl
  | cons h t ih => rw [List.map_cons, List.map_cons, ih, h.1]
theorem KV.length {kvs : List (κ × V)} {vs : List (κ × Value)} (r : KV kvs vs) : kvs.length = vs.length := Paired.length r
end
theorem kV_is {P : Program} {w : World} {k : Key} {u : Value} (r : RelV (kV k) u) : (mixKind P w).is k u = true := by
  cases k with
  | inl i => obtain ⟨t, e⟩ := (show ∃ t, u = Value.int i t from r); subst e; exact mixKind_int P w i t
  | inr x => obtain ⟨t, e⟩ := (show ∃ t, u = Value.str x t from r); subst e; exact mixKind_str P w x t
theorem items_are {P : Program} {w : World} : ∀ {ks : List Key} {us : List Value}, Vals (ks.map kV) us → ItemsAre (mixKind P w) ks us
  | [], _, r => by rw [List.map_nil] at r; cases r; exact .nil
  | k :: ks, _, r => by
    rw [List.map_cons] at r
    cases r with
    | cons h t => exact .cons (kV_is h) (items_are t)
abbrev KT (H : Hp) : List (List Key × V) → List (List Key × Addr × Value) → Prop := Paired fun p q => p.1 = q.1 ∧ H q.2.1 = some (.tup (p.1.map kV)) ∧ RelV p.2 q.2.2
theorem KT.val {H : Hp} {kvs : List (List Key × V)} {xs : List (List Key × Addr × Value)} (r : KT H kvs xs) (k : List Key) : RelO (valV kvs k) ((atKey xs k).map (·.2)) := by
  induction r with
  | nil => exact True.intro
  | @cons p q ps qs h t ih =>
    obtain ⟨h1, _, h2⟩ := h
    by_cases e : p.1 = k
    · have e' : q.1 = k := h1.symm.trans e
      have b : atKey (q :: qs) k = some q.2 := by simp [atKey, List.find?_cons, e']
      rw [valV_pos e, b]; exact h2
    · have e' : ¬ q.1 = k := fun z => e (h1.trans z)
      have b : atKey (q :: qs) k = atKey qs k := by simp [atKey, List.find?_cons, e']
      rw [valV_neg e, b]; exact ih
theorem KT.repl {H : Hp} {kvs : List (List Key × V)} {xs : List (List Key × Addr × Value)} (r : KT H kvs xs) (k : List Key) {y : V} {u : Value} (ry : RelV y u) :
    KT H (kvs.map fun kv => if kv.1 = k then (kv.1, y) else kv) (xs.map (putAt k u)) := by
  induction r with
  | nil => exact .nil
  | @cons p q ps qs h t ih =>
    rw [List.map_cons, List.map_cons]
    refine .cons ?_ ih
    obtain ⟨h1, h2, h3⟩ := h
    unfold putAt
    by_cases e : p.1 = k
    · rw [if_pos e, if_pos (h1.symm.trans e)]; exact ⟨h1, h2, ry⟩
    · rw [if_neg e, if_neg (fun z => e (h1.trans z))]; exact ⟨h1, h2, h3⟩
theorem KT.put {H : Hp} {kvs : List (List Key × V)} {xs : List (List Key × Addr × Value)} (r : KT H kvs xs) (k : List Key) {b : Addr} {y : V} {u : Value} (hb : H b = some (.tup (k.map kV))) (ry : RelV y u) :
    KT H (putK kvs k y) (storedH xs k b u) := by
  have e : (kvs.any fun kv => decide (kv.1 = k)) = (atKey xs k).isSome := by
    rw [valV_any, (r.val k).isSome_eq, Option.isSome_map]
  unfold putK storedH
  rw [e]
  by_cases q : (atKey xs k).isSome = true
  · rw [if_pos q, if_pos q]; exact r.repl k ry
  · rw [if_neg q, if_neg q]; exact Paired.snoc r ⟨rfl, hb, ry⟩
theorem KT.keeps {H H' : Hp} {kvs : List (List Key × V)} {xs : List (List Key × Addr × Value)} (r : KT H kvs xs) (ht : ∀ b ys, H b = some (.tup ys) → H' b = some (.tup ys)) : KT H' kvs xs :=
  Paired.mapP r fun _ _ z => ⟨z.1, ht _ _ z.2.1, z.2.2⟩
section
variable {P : Program} {w : World} {H : Hp} {h : Heap} {a : Addr}
theorem rd_of {u : HO} (ok : HOk P w H h) (e : Rd H a u) : ObjOk P w H h a u := e.ok ok
theorem dk_rd {kvs : List (Key × V)} (ok : HOk P w H h) (e : Rd H a (.dK kvs)) : kvs.length ≤ sizeLine ∧ (a == sysModules) = false ∧ ∃ vs, KV kvs vs ∧ h.DictOf (mixKind P w) a vs :=
  show ObjOk P w H h a (.dK kvs) from rd_of ok e
theorem dk_of {kvs : List (Key × V)} (ok : HOk P w H h) (e : H a = some (.dK kvs)) : kvs.length ≤ sizeLine ∧ (a == sysModules) = false ∧ ∃ vs, KV kvs vs ∧ h.DictOf (mixKind P w) a vs := dk_rd ok (.inl e)
theorem key_of {ks : List Key} (ok : HOk P w H h) (e : H a = some (.tup (ks.map kV))) : (tupleKind (mixKind P w)).is h ks a := by
  obtain ⟨_, its, r, o, h1, h2, n, h3⟩ := (show ObjOk P w H h a (.tup (ks.map kV)) from ok a _ e)
  exact ⟨o, its.toArray, n, h1, h2, h3, by simpa using items_are r⟩
theorem dt_rd {kvs : List (List Key × V)} (ok : HOk P w H h) (e : Rd H a (.dT kvs)) : kvs.length ≤ sizeLine ∧ (a == sysModules) = false ∧
    ∃ xs, KT H kvs xs ∧ h.DictOfH (tupleKind (mixKind P w)) a xs := by
  obtain ⟨z, y, xs, r, o, es, ep, h1, h2, h3, h4, h5⟩ := (show ObjOk P w H h a (.dT kvs) from rd_of ok e)
  refine ⟨z, y, xs, r, o, es, ep, h1, h2, h3, h4, fun x hx => ?_, h5⟩
  have all : ∀ {l : List (List Key × V)} {m : List (List Key × Addr × Value)}, KT H l m → ∀ x ∈ m, (tupleKind (mixKind P w)).is h x.1 x.2.1 := by
    intro l m q
    induction q with
    | nil => intro x hx; exact nomatch hx
    | @cons p q ps qs hq t ih =>
      intro x hx
      rcases List.mem_cons.mp hx with e | hx
      · subst e
        exact key_of ok (by rw [← hq.1]; exact hq.2.1)
      · exact ih x hx
  exact all r x hx
theorem dt_of {kvs : List (List Key × V)} (ok : HOk P w H h) (e : H a = some (.dT kvs)) : kvs.length ≤ sizeLine ∧ (a == sysModules) = false ∧
    ∃ xs, KT H kvs xs ∧ h.DictOfH (tupleKind (mixKind P w)) a xs := dt_rd ok (.inl e)
end
def DGet (H : Hp) (a : Addr) (y : V) (r : Option V) : Prop :=
  (∃ kvs k, Rd H a (.dK kvs) ∧ y = kV k ∧ r = valV kvs k) ∨ ∃ kvs k b, Rd H a (.dT kvs) ∧ y = .ref b ∧ H b = some (.tup (k.map kV)) ∧ r = valV kvs k
def DPut (H : Hp) (a : Addr) (y v : V) (H' : Hp) : Prop :=
  (∃ kvs k, H a = some (.dK kvs) ∧ y = kV k ∧ kvs.length < sizeLine ∧ H' = upd H a (.dK (putK kvs k v))) ∨
  ∃ kvs k b, H a = some (.dT kvs) ∧ y = .ref b ∧ H b = some (.tup (k.map kV)) ∧ kvs.length < sizeLine ∧ H' = upd H a (.dT (putK kvs k v))
theorem DGet.k {H : Hp} {a : Addr} {kvs : List (Key × V)} {k : Key} (e : H a = some (.dK kvs)) : DGet H a (kV k) (valV kvs k) := .inl ⟨kvs, k, .inl e, rfl, rfl⟩
theorem DGet.t {H : Hp} {a b : Addr} {kvs : List (List Key × V)} {k : List Key} (e : H a = some (.dT kvs)) (eb : H b = some (.tup (k.map kV))) : DGet H a (.ref b) (valV kvs k) := .inr ⟨kvs, k, b, .inl e, rfl, eb, rfl⟩
theorem DPut.k {H : Hp} {a : Addr} {kvs : List (Key × V)} {k : Key} {v : V} (e : H a = some (.dK kvs)) (hl : kvs.length < sizeLine) : DPut H a (kV k) v (upd H a (.dK (putK kvs k v))) := .inl ⟨kvs, k, e, rfl, hl, rfl⟩
theorem DPut.t {H : Hp} {a b : Addr} {kvs : List (List Key × V)} {k : List Key} {v : V} (e : H a = some (.dT kvs)) (eb : H b = some (.tup (k.map kV))) (hl : kvs.length < sizeLine) :
    DPut H a (.ref b) v (upd H a (.dT (putK kvs k v))) := .inr ⟨kvs, k, b, e, rfl, eb, hl, rfl⟩
section
variable {X : Cx} {pins : List (Addr × Obj)} {σ : St} {H : Hp} {s : Shared} {a : Addr} {y v : V} {u r : Value} {o : Option V} {A : Around} {E : Value → Shared → Prop}
theorem Inv.big (I : Inv X pins σ H s) : sysModules < s.heap.objs.size := by
  have h : mainGlobals < s.heap.objs.size := (I.mod.glob.keeps I.bk).lt
  exact Nat.lt_trans (by decide) h
theorem d_getItem {Q : Value → Shared → Prop} (hu : A.units + 1 < cLine) (I : Inv X pins σ H s) (g : DGet H a y (some v)) (ry : RelV y u) (h : ∀ w' s', Inv X pins σ H s' → RelV v w' → Q w' s') :
    wpAny (model X.prog X.w) A (getItem (.ref a) u) Q E s := by
  rcases g with ⟨kvs, k, e, ey, l⟩ | ⟨kvs, k, b, e, ey, eb, l⟩
  · subst ey
    obtain ⟨z, hd, vs, rel, dd⟩ := dk_rd I.hok e
    obtain ⟨w', hw, rw'⟩ := RelO.some_of (v := v) (o := valueAt vs k) (by rw [l]; exact rel.val k)
    exact wpAny_getItem_of (kV_is ry) dd.mapOf hw (h w' _ (I.tok _) rw')
  · subst ey
    cases (show u = Value.ref b from ry)
    obtain ⟨z, hd, xs, rel, dd⟩ := dt_rd I.hok e
    obtain ⟨w', hw, rw'⟩ := RelO.some_of (v := v) (o := (atKey xs k).map (·.2)) (by rw [l]; exact rel.val k)
    obtain ⟨p, hp, hp2⟩ := Option.map_eq_some_iff.mp hw
    refine wpAny_getItem_heap (tupleKind_room_in1 hu) (key_of I.hok eb) dd hp ?_
    rw [hp2]
    exact h w' _ (I.tok _) rw'
theorem d_write {h' : Heap} {t' : Nat} {ob : HO} (I : Inv X pins σ H s) (mu : Mut (H a)) (hs : Heap.SameBut a s.heap h') (he : ∃ q, h'.get? a = some q) (new : ObjOk X.prog X.w (upd H a ob) h' a ob) :
    Inv X pins σ (upd H a ob) { s with heap := h', toks := t' } :=
  I.write (x := a) (e := a) mu (.inl rfl) (fun b q hb z => (hs.2 b hb).trans z) he new
theorem dk_new {P : Program} {w : World} {H' : Hp} {h' : Heap} {kvs : List (Key × V)} {vs : List (Key × Value)} (z : kvs.length ≤ sizeLine) (hd : (a == sysModules) = false) (rel : KV kvs vs) (dd : h'.DictOf (mixKind P w) a vs) :
    ObjOk P w H' h' a (.dK kvs) := ⟨z, hd, vs, rel, dd⟩
theorem d_setItem {H' : Hp} {Q : Unit → Shared → Prop} (hu : A.units + 1 < cLine) (I : Inv X pins σ H s) (g : DPut H a y v H') (ry : RelV y u) (rv : RelV v r) (h : ∀ s', Inv X pins σ H' s' → Q () s') :
    wpAny (model X.prog X.w) A (setItem (.ref a) u r) Q E s := by
  rcases g with ⟨kvs, k, e, ey, l, eH⟩ | ⟨kvs, k, b, e, ey, eb, l, eH⟩
  · subst ey eH
    obtain ⟨z, hd, vs, rel, dd⟩ := dk_of I.hok e
    have hz : vs.length ≤ sizeLine := by rw [← rel.length]; exact z
    have hl : (putK kvs k v).length ≤ sizeLine := by have := length_putK kvs k v; omega
    refine wpAny_setItem_pairs (hsz := hz) (kV_is ry) dd fun h' dd' hs => h _ ?_
    have he : ∃ q, h'.get? a = some q := let ⟨q, _, _, hq, _⟩ := dd'; ⟨q, hq⟩
    exact d_write I (by rw [e]; exact True.intro) hs he (dk_new hl hd (rel.put k rv) dd')
  · subst ey eH
    cases (show u = Value.ref b from ry)
    obtain ⟨z, hd, xs, rel, dd⟩ := dt_of I.hok e
    have hz : xs.length ≤ sizeLine := by rw [← Paired.length rel]; exact z
    have hl : (putK kvs k v).length ≤ sizeLine := by have := length_putK kvs k v; omega
    refine wpAny_setItem_heap (hsz := hz) (tupleKind_room_in1 hu) (key_of I.hok eb) dd fun h' dd' hs => h _ ?_
    obtain ⟨q, es, ep, hq, h2, h3, h4, _, h5⟩ := dd'
    refine d_write I (by rw [e]; exact True.intro) hs ⟨q, hq⟩ ⟨hl, hd, _, (rel.put k eb rv).keeps fun c ys ec => ?_, q, es, ep, hq, h2, h3, h4, h5⟩
    rw [upd_ne (ne_of ec e (fun z => nomatch z))]
    exact ec
end
section
variable {X : Cx} {pins : List (Addr × Obj)} {σ : St} {H : Hp} {s : Shared} {a : Addr} {kvs : List (Key × V)} {k : Key} {u : Value} {A : Around} {E : Value → Shared → Prop}
end
def NoSl (i : Expr) : Prop := ∀ ov iv, subscripted i false ov iv = operate [ov, iv] (getItem ov iv)
theorem subD_of {prog : Program} {w : World} {A : Around} {E : Value → Shared → Prop} {s : Shared} {env : Env} {value slice : Expr} {pos : Pos} {T id : String} {Q : Value → Shared → Prop}
    (hl : typeLookup (.type T) "__getitem__" = pure (some (.builtin id))) (hs : NoSl slice)
    (h : wpAny (model prog w) A (eval value env) (fun o s₁ => wpAny (model prog w) A (eval slice env) (fun i s₂ => s₂.TypeIs o T ∧ wpAny (model prog w) A (getItem o i) Q E s₂) E s₁) E s) :
    wpAny (model prog w) A (eval (.Subscript value slice pos) env) Q E s := by
  refine Subscript_ (wpAny_mono h (fun o s₁ h₁ => wpAny_mono h₁ (fun i s₂ h₂ => ?_) fun _ _ x => x) fun _ _ x => x)
  obtain ⟨hT, h₂⟩ := h₂
  unfold subscriptTail
  refine wpAny_bind ?_
  rw [getitemInPython_of_ne hT.not_modules]
  refine wpAny_bind (wpAny_specialOf hT hl ?_)
  have fin : wpAny (model prog w) A (subscripted slice false o i) (fun r s₃ => wpAny (model prog w) A (letTemporaryGo value o r >>= fun _ => pure r) Q E s₃) E s₂ := by
    rw [hs o i]
    exact wpAny_operating (wpAny_mono h₂ (fun r s₃ h₃ => wpAny_bind (wpAny_letTemporaryGo (wpAny_pure h₃))) fun _ _ x => x)
  first
    | exact wpAny_pure (wpAny_bind fin)
    | exact wpAny_bind (wpAny_pure (wpAny_bind fin))
    | exact wpAny_bind fin
theorem dict_typeIs {X : Cx} {pins : List (Addr × Obj)} {σ : St} {H : Hp} {s : Shared} {a : Addr} {y : V} {o : Option V} (I : Inv X pins σ H s) (g : DGet H a y o) : s.TypeIs (.ref a) "dict" := by
  rcases g with ⟨kvs, k, e, _, _⟩ | ⟨kvs, k, b, e, _, _, _⟩
  · obtain ⟨_, _, vs, _, dd⟩ := dk_rd I.hok e
    exact dd.typeIs
  · obtain ⟨_, _, xs, _, dd⟩ := dt_rd I.hok e
    exact dd.typeIs
def tDGet (td ty : TE) : TE := fun σ H Q => td σ H fun x H1 => ty σ H1 fun y H2 => ∃ a v, x = .ref a ∧ DGet H2 a y (some v) ∧ Q v H2
def sDPut (td ty tv : TE) : TS := fun D σ H => tv σ H fun v H1 => td σ H1 fun x H2 => ty σ H2 fun y H3 => ∃ a H4, x = .ref a ∧ DPut H3 a y v H4 ∧ D.nx σ H4
section
variable {X : Cx} {o i e value : Expr} {pos pos' tpos : Pos} {td ty tv : TE}
theorem pe_dget (hu : X.A.units + 1 < cLine) (ho : PE X o td) (hi : PE X i ty) (hs : NoSl i) : PE X (.Subscript o i pos) (tDGet td ty) := by
  intro pins s σ H Q I h
  refine subD_of PySem.F.slot_dict_getitem.lookup hs (thn (ho pins s σ H _ I h) fun u s1 ⟨x, H1, I1, rx, q1⟩ => thn (hi pins s1 σ H1 _ I1 q1) fun iv s2 ⟨y, H2, I2, ry, a, v, ex, g, q2⟩ => ?_)
  subst ex
  obtain rfl : u = Value.ref a := rx
  exact ⟨dict_typeIs I2 g, d_getItem hu I2 g ry fun w' s3 I3 rw' => ⟨v, H2, I3, rw', q2⟩⟩
theorem ps_dput (hu : X.A.units + 1 < cLine) (ho : PE X o td) (hi : PE X i ty) (hv : PE X value tv) (hs : swapsWith value (some (.Subscript o i pos')) pos.line X.env = pure false) :
    PS X (.Assign [.Subscript o i pos'] value pos) (sDPut td ty tv) := by
  intro pins s σ H D I h
  refine wpAny_Assign_Subscript (thn (hv pins s σ H _ I h) fun r s1 ⟨v, H1, I1, rv, q1⟩ => thn (ho pins s1 σ H1 _ I1 q1) fun u s2 ⟨x, H2, I2, rx, q2⟩ => thn (hi pins s2 σ H2 _ I2 q2) fun iv s3 ⟨y, H3, I3, ry, a, H4, ex, g, q3⟩ => ?_) hs
  subst ex
  obtain rfl : u = Value.ref a := rx
  exact d_setItem hu I3 g ry rv fun s4 I4 => ⟨σ, H4, I4, q3⟩
end
theorem dk_empty {P : Program} {w : World} {H : Hp} (h : Heap) (hb : sysModules < h.objs.size) : ObjOk P w H (h.push { cls := .type "dict", data := .dict #[] }) h.objs.size (.dK []) :=
  ⟨Nat.zero_le _, beq_eq_false_iff_ne.mpr (Ne.symm (Nat.ne_of_lt hb)), [], .nil, Heap.DictOf.new h⟩
def tDNewK : TE := fun _ H Q => ∀ p, H p = none → Q (.ref p) (upd H p (.dK []))
section
variable {X : Cx} {pos : Pos}
theorem pe_dnewK : PE X (.Dict [] [] pos) tDNewK := fun pins s σ H Q I h =>
  wpAny_Dict_empty ⟨.ref s.heap.objs.size, _, I.laid (a := s.heap.objs.size) (o := .dK []) (t' := s.toks) (fun _ _ q => Heap.get?_push_of_some _ q) (Nat.le_refl _) (dk_empty s.heap I.big), rfl, h _ (I.hok.fresh (Nat.le_refl _))⟩
end
def tPairs : List (TE × TE) → St → Hp → (List (V × V) → Hp → Prop) → Prop
  | [], _, H, Q => Q [] H
  | (tk, tv) :: r, σ, H, Q => tk σ H fun x H1 => tv σ H1 fun y H2 => tPairs r σ H2 fun ps H3 => Q ((x, y) :: ps) H3
abbrev VV : List (V × V) → List (Value × Value) → Prop := Paired fun p q => RelV p.1 q.1 ∧ RelV p.2 q.2
def PPs (X : Cx) (pos : Pos) (keys : List (Option Expr)) (values : List Expr) (trs : List (TE × TE)) : Prop :=
  ∀ (pins : List (Addr × Obj)) (s : Shared) (σ : St) (H : Hp) (Q : List (V × V) → Hp → Prop), Inv X pins σ H s → tPairs trs σ H Q →
    wpAny (model X.prog X.w) X.A (evalPairs (pairTrees keys values X.env pos)) (fun vs s' => ∃ ps H', Inv X pins σ H' s' ∧ VV ps vs ∧ Q ps H') X.xe s
theorem pps_nil {X : Cx} {pos : Pos} : PPs X pos [] [] [] := fun pins s σ H Q I h => pairTrees_nil_walk ⟨[], H, I, .nil, h⟩
theorem pps_cons {X : Cx} {pos : Pos} {k v : Expr} {ks : List (Option Expr)} {vs : List Expr} {tk tv : TE} {trs : List (TE × TE)} (hk : PE X k tk) (hv : PE X v tv) (hr : PPs X pos ks vs trs) :
    PPs X pos (some k :: ks) (v :: vs) ((tk, tv) :: trs) := fun pins s σ H Q I h =>
  pairTrees_cons_walk (thn (hk pins s σ H _ I h) fun u s1 ⟨x, H1, I1, rx, q1⟩ => thn (hv pins s1 σ H1 _ I1 q1) fun w2 s2 ⟨y, H2, I2, ry, q2⟩ =>
    thn (hr pins s2 σ H2 _ I2 q2) fun ws s3 ⟨ps, H3, I3, rel, q3⟩ => ⟨(x, y) :: ps, H3, I3, .cons ⟨rx, ry⟩ rel, q3⟩)
def mergeK (kvs more : List (Key × V)) : List (Key × V) := more.foldl (fun acc kv => putK acc kv.1 kv.2) kvs
theorem KV.merge : ∀ {more : List (Key × V)} {rs : List (Key × Value)} {kvs : List (Key × V)} {vs : List (Key × Value)}, KV more rs → KV kvs vs → KV (mergeK kvs more) (merged vs rs) := by
  intro more rs kvs vs r
  unfold KV at r
  induction r generalizing kvs vs with
  | nil => intro q; exact q
  | @cons p q ps qs h t ih =>
    intro r0
    have e : KV (putK kvs p.1 p.2) (stored vs q.1 q.2) := by
      have := r0.put p.1 h.2
      rw [← h.1]; exact this
    exact ih e
theorem length_mergeK : ∀ (more kvs : List (Key × V)), (mergeK kvs more).length ≤ kvs.length + more.length
  | [], kvs => by show kvs.length ≤ kvs.length + 0; omega
  | p :: r, kvs => by
    have h1 := length_mergeK r (putK kvs p.1 p.2)
    have h2 := length_putK kvs p.1 p.2
    show (mergeK (putK kvs p.1 p.2) r).length ≤ _
    rw [List.length_cons]; omega
theorem carries_of {P : Program} {w : World} : ∀ {kvs : List (Key × V)} {ws : List (Value × Value)}, VV (kvs.map fun kv => (kV kv.1, kv.2)) ws → ∃ rs, Carries (mixKind P w) ws rs ∧ KV kvs rs
  | [], _, r => by rw [List.map_nil] at r; cases r; exact ⟨[], True.intro, .nil⟩
  | p :: kvs, _, r => by
    rw [List.map_cons] at r
    cases r with
    | @cons a b as bs h t =>
      obtain ⟨rs, c, q⟩ := carries_of (P := P) (w := w) t
      obtain ⟨b1, b2⟩ := b
      exact ⟨(p.1, b2) :: rs, ⟨kV_is h.1, rfl, c⟩, .cons ⟨rfl, h.2⟩ q⟩
def tDisp (trs : List (TE × TE)) : TE := fun σ H Q => ∀ p, H p = none → tPairs trs σ (upd H p (.dK [])) fun ps H2 => H2 p = some (.dK []) ∧ ∃ kvs : List (Key × V), ps = kvs.map (fun kv => (kV kv.1, kv.2)) ∧ kvs.length ≤ 15 ∧ Q (.ref p) (upd H2 p (.dK (mergeK [] kvs)))
theorem pe_disp {X : Cx} {pos : Pos} {keys : List (Option Expr)} {values : List Expr} {trs : List (TE × TE)} (h : PPs X pos keys values trs) (hall : keys.all (·.isSome) = true) (hl : keys.length = values.length) (h0 : keys ≠ [])
    (h15 : keys.length ≤ 15) : PE X (.Dict keys values pos) (tDisp trs) := by
  intro pins s σ H Q I q
  have hn := I.hok.fresh (Nat.le_refl s.heap.objs.size)
  have I1 := I.laid (a := s.heap.objs.size) (o := .dK []) (h' := s.heap.push { cls := .type "dict", data := .dict #[] }) (t' := s.toks) (fun _ _ q => Heap.get?_push_of_some _ q) (Nat.le_refl _) (dk_empty s.heap I.big)
  refine wpAny_Dict_walk (knd := mixKind X.prog X.w) hall hl h0 h15 (thn (h pins _ σ _ _ I1 (q _ hn)) fun ws s2 ⟨ps, H2, I2, rel, e, kvs, ep, lk, q2⟩ => ?_)
  subst ep
  obtain ⟨rs, c, rk⟩ := carries_of (P := X.prog) (w := X.w) rel
  obtain ⟨z, hd, vs0, r0, dd⟩ := dk_of I2.hok e
  cases r0
  refine ⟨rs, c, dd, fun h' dd' hs => ⟨.ref s.heap.objs.size, _, ?_, rfl, q2⟩⟩
  have hz : (mergeK [] kvs).length ≤ sizeLine := by
    have h1 := length_mergeK kvs []
    rw [List.length_nil] at h1
    rw [sizeLine_eq]; omega
  have he : ∃ q, h'.get? s.heap.objs.size = some q := let ⟨q, _, _, hq, _⟩ := dd'; ⟨q, hq⟩
  exact d_write I2 (by rw [e]; exact True.intro) hs he (dk_new hz hd (rk.merge .nil) dd')
structure M1 (X : Cx) (o : Expr) (m : Str) (apos : Pos) (e : Expr) (cpos : Pos) : Prop where
  base : attributeBase o m X.env (eval o X.env) = eval o X.env
  few : ((backTo cpos (starEach [e] X.env)).all (fun x => !x.1) && (backToKw cpos (keywordEach [] X.env)).all (fun x => x.1.isSome)
    && decide (([e] : List Expr).length + ([] : List Keyword).length + (if ([] : List Keyword).isEmpty then 0 else 1) < 30)) = true
  line : (apos.endLine == cpos.line) = true
  trees : backTo cpos (starEach [e] X.env) = [(false, eval e X.env)]
structure M2 (X : Cx) (o : Expr) (m : Str) (apos : Pos) (e f : Expr) (cpos : Pos) : Prop where
  base : attributeBase o m X.env (eval o X.env) = eval o X.env
  few : ((backTo cpos (starEach [e, f] X.env)).all (fun x => !x.1) && (backToKw cpos (keywordEach [] X.env)).all (fun x => x.1.isSome)
    && decide (([e, f] : List Expr).length + ([] : List Keyword).length + (if ([] : List Keyword).isEmpty then 0 else 1) < 30)) = true
  line : (apos.endLine == cpos.line) = true
  trees : backTo cpos (starEach [e, f] X.env) = [(false, eval e X.env), (false, eval f X.env)]
section
variable {X : Cx} {pins : List (Addr × Obj)} {σ : St} {H : Hp} {s : Shared} {a : Addr} {y d : V} {u r : Value} {o : Option V} {A : Around} {E : Value → Shared → Prop}
end
section
variable {X : Cx} {o e f : Expr} {apos cpos : Pos} {td ty tx : TE}
end
section
variable {X : Cx} {pins : List (Addr × Obj)} {σ : St} {H : Hp} {s : Shared} {a : Addr} {kvs : List (Key × V)} {A : Around} {E : Value → Shared → Prop}
end
section
variable {X : Cx} {pins : List (Addr × Obj)} {σ : St} {H : Hp} {s : Shared} {a : Addr} {y : V} {u : Value} {A : Around} {E : Value → Shared → Prop}
end
end L2
namespace L2
open PySem PySem.Spec PyProof.Rows
section
variable {prog : Program} {w : World} {A : Around} {E : Value → Shared → Prop}
end
section
variable {X : Cx}
end
end L2
namespace L2
open PySem PySem.Spec PyProof.Rows
theorem boot_reversed5 : bootBuiltins "reversed" = some (.type "reversed") := by decide +kernel
section
variable {X : Cx} {pins : List (Addr × Obj)} {σ : St} {H : Hp} {s : Shared} {h' : Heap}
theorem Inv.turnedNew {t' : Nat} {ch : List Addr} {T : Addr} {ob : HO} (I : Inv X pins σ H s) (k : ∀ b o, b ∉ ch → s.heap.get? b = some o → h'.get? b = some o) (hf : ∀ b ∈ ch, FpOk X pins H b) (hT : s.heap.objs.size ≤ T)
    (new : ObjOk X.prog X.w (upd H T ob) h' T ob) : Inv X pins σ (upd H T ob) { s with heap := h', toks := t' } := by
  have hn : H T = none := I.hok.fresh hT
  have nit : ∀ b u, H b = some u → b ∉ ch := fun b u e z => by
    have q := (hf b z).1
    rw [q] at e; cases e
  refine I.step (g' := s.gens) (d' := s.drawn) (ch := ch) (fun b hb => ⟨(hf b hb).2.2.2.1, (hf b hb).2.1, (hf b hb).2.2.2.2.1, (hf b hb).2.2.2.2.2⟩) (fun b o _ _ hc e _ => k b o hc e) (fun b o _ _ hc e _ => ⟨o.slots, k b o hc e⟩)
    (fun b o _ e n => ?_) (fun b o hc e => ⟨o, k b o hc e⟩) (fun b xs e => ?_) (fun b o u e => ?_) (fun b ps e => ⟨#[], ?_⟩) (fun m hm => ?_) (fun b u e => ?_) (.same rfl rfl)
  · rw [upd_ne (Nat.ne_of_lt (Nat.lt_of_lt_of_le (Heap.lt_size e) hT))]; exact n
  · rw [upd_ne (ne_of_none e hn)]; exact e
  · rw [upd_ne (ne_of_none e hn)]; exact e
  · rw [upd_ne (ne_of_none e hn), e]; simp
  · obtain ⟨o, es, ep, ho, r⟩ := hm
    exact ⟨o, es, ep, k _ o (fun z => (hf _ z).2.1 rfl) ho, r⟩
  · by_cases hb : b = T
    · subst hb
      rw [upd_same] at e
      cases e
      exact new
    · rw [upd_ne hb] at e
      refine (I.hok b u e).stay (fun c v hc q => k c v ?_ q) (fun c q => by rw [upd_ne (ne_of_none q hn)]; exact q) fun c xs q => by rw [upd_ne (ne_of_none q hn)]; exact q
      rcases hc with z | z
      · rw [z]; exact nit b u e
      · exact nit c _ z
end
section
variable {X : Cx}
theorem pi_one {tg : Expr} {pins : List (Addr × Obj)} {σ : St} {H : Hp} {s : Shared} {R : It → Hp → Prop} {J : It} {tn : Nat → Heap → Prop} {tk : Nat} (I : Inv X pins σ H s) (o : Obj)
    (T : Turn X.prog X.w X.K tg J [s.heap.objs.size] s.heap.objs.size tn) (st : tn 0 (s.heap.push o)) (q : R J H) : PIE X pins σ tg R (.ref s.heap.objs.size) { s with heap := s.heap.push o, toks := tk } := by
  refine ⟨s.heap.objs.size, [s.heap.objs.size], tn, J, H, rfl, I.kept fun b ob e => Heap.get?_push_of_some _ e, T, st, fun b hb => ?_, q⟩
  have e : b = s.heap.objs.size := by simpa using hb
  subst e
  exact I.fpOk (Nat.le_refl _) (I.hok.fresh (Nat.le_refl _))
end
def Itc (lo c : Int) (n : Nat) : It := ⟨fun i _ => i < n, fun i H x H' => H' = H ∧ x = .int (lo + (i : Nat) * c), fun i _ => n ≤ i⟩
theorem turn_rangeC {P : Program} {w : World} {K : PySem.W.Frag} {tg : Expr} (it : Addr) (lo c : Int) (n : Nat) : Turn P w K tg (Itc lo c n) [it] it (fun i h => IsRangeIter h it (lo + (i : Nat) * c) ((n : Int) - (i : Nat)) c) where
  mem := by simp
  obj := fun i h st b hb => by
    have e : b = it := by simpa using hb
    subst e
    exact ⟨_, st, fun v z => nomatch z⟩
  keep := fun i h h' st k => k it (by simp) _ st
  item := by
    intro X hP hw hK hc i pins s σ H E I hf st hg
    subst hP hw hK
    obtain ⟨f0, f1, f2, f3, f4, f5⟩ := hf it (by simp)
    have W := Walks.range (prog := X.prog) (w := X.w) (I.ok.hd hc) it lo c n
    refine W.item i s _ _ hg st fun v h' tk hv st' kk => ?_
    obtain ⟨t, rfl⟩ := hv
    have I1 : Inv X pins σ H { s with heap := h', toks := tk } := I.turned (fun b o hb e => kk b o (by simpa using hb) e) f0 f1 f3 f4 f5
    exact ⟨_, rfl, go_of (s := { s with heap := h', toks := tk }) (n := "range_iterator") st' rfl rfl (by decide) ⟨.int (lo + (i : Nat) * c), H, I1, ⟨t, rfl⟩, ⟨rfl, rfl⟩, st', fun b hb => (hf b hb).1⟩⟩
  done := by
    intro X hP hw hK hc i pins s σ H E I hf st hg
    subst hP hw hK
    obtain ⟨f0, f1, f2, f3, f4, f5⟩ := hf it (by simp)
    exact wpAny_pyNext_range_end (I.ok.hd hc) st (by have : n ≤ i := hg; omega) fun h' eb => ⟨rfl, I.turned (t' := s.toks) (fun b o hb e => eb b o hb e) f0 f1 f3 f4 f5⟩
  self := fun A i s Q E st h => wpAny_pyIter_rangeiter st h
def RgC (i j c : Int) (n : Nat) : Prop := c ≠ 0 ∧ c.natAbs < 1073741824 ∧ Builtin.Range.small i j c = true ∧ Builtin.Range.rangeSize i j c = n
theorem RgC.neg {i j : Int} (ha : -(2 ^ 62) ≤ i) (ha' : i < 2 ^ 62) (hb : -(2 ^ 62) ≤ j) (hb' : j < 2 ^ 62) : RgC i j (-1) (i - j).toNat :=
  ⟨by decide, by decide, PySem.W.small_down ha ha' hb hb', PySem.W.rangeSize_downNat i j⟩
def iRng3 (ta : TA) : TI := fun σ H R => ta σ H fun vs H1 => ∃ (i j c : Int) (n : Nat), vs = [.int i, .int j, .int c] ∧ RgC i j c n ∧ R (Itc i c n) H1
section
variable {X : Cx} {tg : Expr}
theorem pi_range3 {a b c : Expr} {ta : TA} {p pos : Pos} (hg : Gl X "range") (hm : X.mg "range" = none) (ha : PA X [a, b, c] ta)
    (hs : starEach [a, b, c] X.env = (false, eval a X.env) :: starEach [b, c] X.env := by rfl) (hpl : (backTo pos (starEach [b, c] X.env)).any (·.1) = false := by rfl) :
    PI X tg (.Call (.Name "range" p) [a, b, c] [] pos) (iRng3 ta) := by
  intro pins s σ H R I h
  refine Call_ (ld_blt I hg hm boot_range (PyProof.Rows.callWith_type1 (thn (ha pos pins s σ H _ I h) fun us s1 ⟨vs, H1, I1, r1, q1⟩ => ?_) hs hpl))
  obtain ⟨i, j, k, n, e, ⟨c0, c1, c2, c3⟩, q⟩ := q1
  subst e
  cases r1 with
  | cons r rr =>
    cases rr with
    | cons r' rr =>
      cases rr with
      | cons r'' rr =>
        cases rr
        obtain ⟨t, rfl⟩ := r
        obtain ⟨t', rfl⟩ := r'
        obtain ⟨t'', rfl⟩ := r''
        refine call_range_3 c0 ?_ (.inl (PyProof.noPylong_small c1))
        refine wpAny_pyIter_range (IsRange.new ..) c2 ?_
        have I2 : Inv X pins σ H1 { s1 with heap := s1.heap.push { cls := .type "range", data := .fields #[.int i t, .int j t', .int k t''] } } := I1.kept (t' := s1.toks) fun b o e => Heap.get?_push_of_some _ e
        refine pi_one (tk := s1.toks) I2 _ (turn_rangeC _ i k n) ?_ q
        have e1 : i + ((0 : Nat) : Int) * k = i := by simp
        have e2 : (n : Int) - ((0 : Nat) : Int) = Builtin.Range.rangeSize i j k := by rw [c3]; simp
        show IsRangeIter _ _ (i + ((0 : Nat) : Int) * k) ((n : Int) - ((0 : Nat) : Int)) k
        rw [e1, e2]
        exact Heap.get?_push_size _ rfl
end
def Itv (K : PySem.W.Frag) (a : Addr) (n : Nat) : It :=
  ⟨fun i H => i < n ∧ ∃ (xs : List V) (x : V), SqL K H a xs ∧ xs[n - 1 - i]? = some x, fun i H x H' => H' = H ∧ ∀ xs, SqL K H a xs → xs[n - 1 - i]? = some x, fun i _ => n ≤ i⟩
theorem turn_rev {P : Program} {w : World} {K : PySem.W.Frag} {tg : Expr} (a it : Addr) (n : Nat) : Turn P w K tg (Itv K a n) [it] it (fun i h => i ≤ n ∧ h.IsRevIter it a ((n : Int) - 1 - (i : Nat))) where
  mem := by simp
  obj := fun i h st b hb => by
    have e : b = it := by simpa using hb
    subst e
    obtain ⟨_, o, e, c, d⟩ := st
    exact ⟨o, e, fun v z => by rw [d] at z; cases z⟩
  keep := fun i h h' st k => ⟨st.1, st.2.at fun o e => k it (by simp) o e⟩
  item := by
    intro X hP hw hK hc i pins s σ H E I hf st hg
    subst hP hw hK
    obtain ⟨hin, xs, x, hq, hx⟩ := hg
    obtain ⟨its, rv, p, hz⟩ := I.list hq
    obtain ⟨u, hu, ru⟩ := rv.get hx
    obtain ⟨f0, f1, f2, f3, f4, f5⟩ := hf it (by simp)
    obtain ⟨_, hit⟩ := st
    have e1 : (n : Int) - 1 - ((i : Nat) : Int) = ((n - 1 - i : Nat) : Int) := by omega
    rw [e1] at hit
    refine wpAny_pyNext_rev_item hit p.isList (x := u) (by simpa using hu) fun h' st' sb => ?_
    have e2 : ((n - 1 - i : Nat) : Int) - 1 = (n : Int) - 1 - ((i + 1 : Nat) : Int) := by omega
    rw [e2] at st'
    have I1 : Inv X pins σ H { s with heap := h' } := I.turned (t' := s.toks) (fun b o hb e => (sb.2 b hb).trans e) f0 f1 f3 f4 f5
    obtain ⟨o, e, c, d⟩ := id st'
    exact ⟨u, rfl, go_of (s := { s with heap := h' }) e c d (by decide) ⟨x, H, I1, ru, ⟨rfl, fun ys hy => by rw [I.list_inj hy hq]; exact hx⟩, ⟨hin, st'⟩, fun b hb => (hf b hb).1⟩⟩
  done := by
    intro X hP hw hK hc i pins s σ H E I hf st hg
    subst hP hw hK
    obtain ⟨f0, f1, f2, f3, f4, f5⟩ := hf it (by simp)
    obtain ⟨hin, hit⟩ := st
    have hge : n ≤ i := hg
    have e1 : (n : Int) - 1 - ((i : Nat) : Int) = -1 := by omega
    rw [e1] at hit
    exact wpAny_pyNext_rev_end (I.ok.hd hc) hit fun h' eb => ⟨rfl, I.turned (t' := s.toks) (fun b o hb e => eb b o hb e) f0 f1 f3 f4 f5⟩
  self := fun A i s Q E st h => wpAny_pyIter_revIter st.2 h
def iRev (K : PySem.W.Frag) (ta : TA) : TI := fun σ H R => ta σ H fun vs H1 => ∃ (a : Addr) (xs : List V), vs = [.ref a] ∧ SqL K H1 a xs ∧ R (Itv K a xs.length) H1
section
variable {X : Cx} {tg : Expr}
theorem pi_reversed {e : Expr} {ta : TA} {p pos : Pos} (hg : Gl X "reversed") (hm : X.mg "reversed" = none) (ha : PA X [e] ta) (hs : starEach [e] X.env = [(false, eval e X.env)] := by rfl) : PI X tg (.Call (.Name "reversed" p) [e] [] pos) (iRev X.K ta) := by
  intro pins s σ H R I h
  refine Call_ (ld_blt I hg hm boot_reversed5 (PyProof.Rows.callWith_type1 (thn (ha pos pins s σ H _ I h) fun us s1 ⟨vs, H1, I1, r1, q1⟩ => ?_) hs rfl))
  obtain ⟨a, xs, e, hq, q⟩ := q1
  subst e
  cases r1 with
  | cons r rr =>
    cases rr
    cases r
    obtain ⟨its, rv, p', hz⟩ := I1.list hq
    have hl := rv.length
    have e1 : ((its.toArray.size : Nat) : Int) - 1 = (xs.length : Int) - 1 - ((0 : Nat) : Int) := by simp only [List.size_toArray]; omega
    refine call_reversed_list p'.isList (wpAny_pyIter_revIter (l := a) (i := ((its.toArray.size : Nat) : Int) - 1) ⟨_, Heap.get?_push_size _ rfl, rfl, rfl⟩ ?_)
    refine pi_one (tk := s1.toks) I1 _ (turn_rev a _ xs.length) ⟨Nat.zero_le _, ?_⟩ q
    rw [← e1]
    exact ⟨_, Heap.get?_push_size _ rfl, rfl, rfl⟩
end
section
variable {prog : Program} {w : World} {A : Around} {E : Value → Shared → Prop} {s : Shared}
end
section
variable {X : Cx} {pins : List (Addr × Obj)} {σ : St} {H : Hp} {s : Shared} {d : Addr} {o : Obj}
end
section
variable {P : Program} {w : World} {K : PySem.W.Frag} {tg : Expr} {d : Addr} {o : Obj} {es : Array DictEntry} {ep : Nat}
end
section
variable {X : Cx} {tg e : Expr} {td : TE} {apos cpos : Pos}
end
def Ite (K : PySem.W.Frag) (a : Addr) : It :=
  ⟨fun i H => ∃ (xs : List V) (x : V), SqL K H a xs ∧ xs[i]? = some x, fun i H v H' => ∃ T x, v = .ref T ∧ H T = none ∧ H' = upd H T (.tup [.int (i : Nat), x]) ∧ ∀ xs, SqL K H a xs → xs[i]? = some x, fun i H => ∃ xs : List V, SqL K H a xs ∧ xs.length ≤ i⟩
theorem turn_enum {P : Program} {w : World} {K : PySem.W.Frag} {elts : List Expr} {kk : Nat} {tpos : Pos} (a e it : Addr) :
    Turn P w K (.Tuple elts kk tpos) (Ite K a) [e, it] e (fun i h => (∃ old, IsEnum h e it ((i : Nat) : Int) old) ∧ h.IsListIter it a i ∧ e ≠ it) where
  mem := by simp
  obj := fun i h st b hb => by
    obtain ⟨⟨old, he⟩, ⟨o, ho, hc, hd⟩, _⟩ := st
    have e' : b = e ∨ b = it := by simpa using hb
    rcases e' with z | z
    · rw [z]; exact ⟨_, he, fun v q => nomatch q⟩
    · rw [z]; exact ⟨o, ho, fun v q => by rw [hd] at q; cases q⟩
  keep := fun i h h' st k => let ⟨⟨old, he⟩, hi, hne⟩ := st; ⟨⟨old, k e (by simp) _ he⟩, hi.at fun o q => k it (by simp) o q, hne⟩
  item := by
    intro X hP hw hK hc i pins s σ H E I hf st hg
    subst hP hw hK
    obtain ⟨⟨old, he⟩, hit, hne⟩ := st
    obtain ⟨xs, x, hq, hx⟩ := hg
    obtain ⟨its, rv, p, hz⟩ := I.list hq
    obtain ⟨u, hu, ru⟩ := rv.get hx
    have hel : e < s.heap.objs.size := Heap.lt_size he
    have hil : it < s.heap.objs.size := by obtain ⟨_, q, _⟩ := hit; exact Heap.lt_size q
    refine wpAny_pyNext_enum_item he hit p.isList (x := u) (by simpa using hu) hne fun h' ho hit' hT hsz hk => ?_
    refine ⟨_, rfl, wpAny_letOwnedTupleGo_enum (s := { s with heap := h', toks := s.toks + 1 }) ho fun h'' he' sb => ?_⟩
    have hT2 : h''.get? s.heap.objs.size = some { cls := .type "tuple", data := .seq #[.int i s.toks, u] } := (sb.2 _ (Nat.ne_of_gt hel)).trans hT
    have new : ObjOk X.prog X.w (upd H s.heap.objs.size (.tup [.int (i : Nat), x])) h'' s.heap.objs.size (.tup [.int (i : Nat), x]) :=
      ⟨by show 2 ≤ sizeLine; decide, [.int i s.toks, u], .cons ⟨_, rfl⟩ (.cons ru .nil), ⟨_, hT2, rfl, _, rfl⟩⟩
    have I1 : Inv X pins σ (upd H s.heap.objs.size (.tup [.int (i : Nat), x])) { s with heap := h'', toks := s.toks + 1 } :=
      I.turnedNew (ch := [e, it]) (fun b ob hb q => (sb.2 b (fun z => hb (by simp [z]))).trans (hk b ob (fun z => hb (by simp [z])) (fun z => hb (by simp [z])) q)) hf (Nat.le_refl _) new
    refine ⟨.ref s.heap.objs.size, _, I1, rfl, ⟨_, x, rfl, I.hok.fresh (Nat.le_refl _), rfl, fun ys hy => by rw [I.list_inj hy hq]; exact hx⟩, ⟨⟨u, ?_⟩, hit'.at fun o q => (sb.2 it (Ne.symm hne)).trans q, hne⟩, fun b hb => ?_⟩
    · have e1 : ((i + 1 : Nat) : Int) = (i : Int) + 1 := by omega
      rw [e1]; exact he'
    · have hb' : b < s.heap.objs.size := by
        have e' : b = e ∨ b = it := by simpa using hb
        rcases e' with z | z
        · rw [z]; exact hel
        · rw [z]; exact hil
      rw [upd_ne (Nat.ne_of_lt hb')]
      exact (hf b hb).1
  done := by
    intro X hP hw hK hc i pins s σ H E I hf st hg
    subst hP hw hK
    obtain ⟨⟨old, he⟩, hit, hne⟩ := st
    obtain ⟨xs, hq, hx⟩ := hg
    obtain ⟨its, rv, p, hz⟩ := I.list hq
    obtain ⟨f0, f1, f2, f3, f4, f5⟩ := hf it (by simp)
    have hl := rv.length
    exact wpAny_pyNext_enum_end (I.ok.hd hc) he hit p.isList (by simp; omega) fun h' eb => ⟨rfl, I.turned (t' := s.toks) (fun b o hb q => eb b o hb q) f0 f1 f3 f4 f5⟩
  self := fun A i s Q E st h => let ⟨⟨_, he⟩, _⟩ := st; wpAny_pyIter_enum he h
end L2
section 
namespace Bits
open PySem PyProof.Rows
end Bits
end 
section 
namespace TL
open PySem PySem.Builtin PySem.Builtin.Str PySem.StrLaws
abbrev tl (x : Str) : List Nat := x.cps.toList
def pre (S l : List Nat) : Bool := l.take S.length == S
def par (S : List Nat) : List Nat → List Nat → Option (List Nat × List Nat)
  | _, [] => none
  | acc, c :: r => if pre S (c :: r) = true then some (acc, (c :: r).drop S.length) else par S (acc ++ [c]) r
end TL
end 
namespace L2
open PySem PySem.Spec PyProof.Rows
section
variable {X : Cx} {pins : List (Addr × Obj)} {σ : St} {H : Hp} {s : Shared} {Q : VK}
end
section
variable {X : Cx}
end
section
variable {X : Cx} {o e : Expr} {to te : TE}
end
end L2
namespace L2
open PySem PySem.Spec PyProof.Rows
section
variable {X : Cx}
end
theorem IsPart.raw {v : Value} {o : Option Int} (p : IsPart v o) : ∃ l : Option (Int × Tok), v = partValue l ∧ l.map (·.1) = o := by
  cases p with
  | none => exact ⟨none, rfl, rfl⟩
  | int i t => exact ⟨some (i, t), rfl, rfl⟩
def clipS (n d : Nat) : Option Int → Int
  | none => (d : Int)
  | some i => max 0 (min (if i < 0 then i + (n : Int) else i) (n : Int))
theorem clipS_eq (n d : Nat) (o : Option Int) : clipS n d o = ((HT.sIx n d o : Nat) : Int) := by
  cases o with
  | none => rfl
  | some v =>
    show max (0 : Int) (min (if v < 0 then v + (n : Int) else v) (n : Int)) = (((if v < 0 then (v + (n : Int)).toNat else min v.toNat n) : Nat) : Int)
    by_cases hv : v < 0
    · simp only [if_pos hv]
      omega
    · simp only [if_neg hv]
      omega
theorem sidx_clip (a b : Option Int) (n : Nat) : Builtin.Str.strSliceIndices a b 1 n = sliceRange (clipS n 0 a) (clipS n n b) 1 := by
  have h1 : ((1 : Int) > 0) = True := by simp
  cases a <;> cases b <;> first
    | rfl
    | (simp only [Builtin.Str.strSliceIndices, clipS, h1, if_true]; rfl)
    | simp [Builtin.Str.strSliceIndices, clipS]
theorem sidx (a b : Option Int) (n : Nat) : Builtin.Str.strSliceIndices a b 1 n = (List.range (HT.sIx n n b - HT.sIx n 0 a)).map (fun k => HT.sIx n 0 a + k) := by
  rw [sidx_clip, clipS_eq, clipS_eq]
  generalize HT.sIx n 0 a = p
  generalize HT.sIx n n b = q
  simp only [sliceRange, show ((1 : Int) > 0) = True from by simp, if_true]
  by_cases hlt : (p : Int) < q
  · have e3 : (((q : Int) - p + 1 - 1) / 1).toNat = q - p := by first | omega | (simp; done) | (simp; omega)
    simp only [hlt, if_true, e3]
    refine List.map_congr_left fun k _ => ?_
    omega
  · have : q - p = 0 := by omega
    simp [hlt, this]
def cutS (z : Str) (lo hi : Option Int) : Str :=
  ⟨((z.cps.toList.drop (HT.sIx z.length 0 lo)).take (HT.sIx z.length z.length hi - HT.sIx z.length 0 lo)).toArray⟩
theorem sliceText_cut (z : Str) (lo hi : Option Int) : PySem.StrLaws.sliceText z lo hi = cutS z lo hi := by
  have h1 : HT.sIx z.length 0 lo ≤ z.length := HT.sIx_le _ _ (Nat.zero_le _) _
  have h2 : HT.sIx z.length z.length hi ≤ z.length := HT.sIx_le _ _ (Nat.le_refl _) _
  have hp : HT.sIx z.length 0 lo ≤ max (HT.sIx z.length 0 lo) (HT.sIx z.length z.length hi) := Nat.le_max_left _ _
  have hq : max (HT.sIx z.length 0 lo) (HT.sIx z.length z.length hi) ≤ z.length := Nat.max_le.mpr ⟨h1, h2⟩
  have hd : max (HT.sIx z.length 0 lo) (HT.sIx z.length z.length hi) - HT.sIx z.length 0 lo = HT.sIx z.length z.length hi - HT.sIx z.length 0 lo := by omega
  have e : Builtin.Str.strSliceIndices lo hi 1 z.length =
      Builtin.Str.strSliceIndices (some ((HT.sIx z.length 0 lo : Nat) : Int)) (some ((max (HT.sIx z.length 0 lo) (HT.sIx z.length z.length hi) : Nat) : Int)) 1 z.length := by
    rw [PySem.StrLaws.strSliceIndices_plain hp hq, hd, sidx]
  have e2 : PySem.StrLaws.sliceText z lo hi =
      PySem.StrLaws.sliceText z (some ((HT.sIx z.length 0 lo : Nat) : Int)) (some ((max (HT.sIx z.length 0 lo) (HT.sIx z.length z.length hi) : Nat) : Int)) := by
    unfold PySem.StrLaws.sliceText
    rw [e]
  rw [e2, PySem.StrLaws.sliceText_nat z hp hq, hd]
  rfl
theorem cutS_length (z : Str) (lo hi : Option Int) : (cutS z lo hi).length ≤ z.length := by
  show (((z.cps.toList.drop (HT.sIx z.length 0 lo)).take (HT.sIx z.length z.length hi - HT.sIx z.length 0 lo)).toArray).size ≤ z.cps.size
  rw [List.size_toArray, List.length_take, List.length_drop, Array.length_toList]
  omega
def rSlS : V → Option Int → Option Int → Hp → VK → Prop := fun x lo hi H Q => ∃ z, x = .str z ∧ z.length ≤ sizeLine ∧ Q (.str (cutS z lo hi)) H
theorem sl_str {X : Cx} : SlR X rSlS := by
  intro pins s σ H x v vl vu lo hi sl Q I rx hs pl pu h
  obtain ⟨z, rfl, hz, q⟩ := h
  obtain ⟨t, rfl⟩ := rx
  obtain ⟨os, hos, hcs, hds⟩ := hs
  obtain ⟨l, rfl, rfl⟩ := IsPart.raw pl
  obtain ⟨u, rfl, rfl⟩ := IsPart.raw pu
  refine ⟨"str", _, F.slot_str_getitem.lookup, typeIs_str _ _ _, ?_⟩
  refine wpAny_getItem_str_slice (l := l) (u := u) (st := none) ⟨os, hos, hcs, hds⟩ rfl ?_
  have hl : (PySem.StrLaws.sliceText z (l.map (·.1)) (u.map (·.1))).length ≤ sizeLine := by
    rw [sliceText_cut]
    exact Nat.le_trans (cutS_length z _ _) hz
  rw [← sliceText_cut] at q
  unfold PySem.StrLaws.sliceText at q hl
  show Made.post (if ((1 : Int) == 1 && (Builtin.Str.strSliceIndices (l.map (·.1)) (u.map (·.1)) 1 z.length).length == z.length) = true then Made.val (.str z t)
    else Made.str ⟨((Builtin.Str.strSliceIndices (l.map (·.1)) (u.map (·.1)) 1 z.length).filterMap (z.cps[·]?)).toArray⟩) (EP X pins σ Q) s
  by_cases c : ((1 : Int) == 1 && (Builtin.Str.strSliceIndices (l.map (·.1)) (u.map (·.1)) 1 z.length).length == z.length) = true
  · rw [if_pos c] at q ⊢
    exact ⟨.str z, H, I, ⟨t, rfl⟩, q⟩
  · rw [if_neg c] at q hl ⊢
    exact ⟨hl, .str _, H, I.tok _, ⟨_, rfl⟩, q⟩
end L2
namespace Att
open PySem PySem.W PySem.Calls PyProof.Rows
theorem ints_of_wellAll {P : Params} {h : Heap} : ∀ (ns : List Int) (vs : List Value), WellAll P h vs (ns.map WData.int) → IntsAre vs ns := by
  intro ns
  induction ns with
  | nil =>
    intro vs w
    rw [List.map_nil] at w
    cases w
    exact .nil
  | cons n ns ih =>
    intro vs w
    rw [List.map_cons] at w
    cases w with
    | cons a b =>
      cases a
      exact .cons _ _ (ih _ b)
theorem script_of {l : OpenLaw} {n : Nat} (hn : l.most = some n) {P : Params} {h : Heap} {args : List WData} {vals : List Value}
    (hpre : l.row.toRowW.claim.pre args = true) (hwl : WellAll P h vals args) :
    ∃ a vs ns, vals = [Value.ref a] ∧ args = [WData.list (ns.map WData.int)] ∧ h.get? a = some { cls := .type "list", data := .seq vs.toArray } ∧ IntsAre vs ns ∧ ns.length ≤ n := by
  have hsh : WShape.hasAll [] args [.list .int] = true := (pre_splitW hpre).1
  have hc : l.pre.holds [] { args := args } = true := (pre_splitW hpre).2
  obtain ⟨d, r, rfl, h1, h2⟩ := hasAllW_cons hsh
  obtain rfl := hasAllW_nil h2
  obtain ⟨xs, rfl, h3⟩ := hasW_list h1
  obtain ⟨ns, rfl⟩ := items_int h3
  have hlen : ns.length ≤ n := by
    unfold OpenLaw.pre at hc
    have h4 : (WTm.not (.lt (.lit (.int (n : Int))) (.len (.arg 0)))).holds [] { args := [.list (ns.map .int)] } = true := by
      have h4 := (holds_andW hc).1
      rw [hn] at h4
      exact h4
    have h5 := condW_of h4 (w_not (w_lt w_lit (w_len_list (w_arg rfl))))
    rw [List.length_map] at h5
    refine Nat.le_of_not_lt fun q => ?_
    have q' : (n : Int) < ((ns.length : Nat) : Int) := by omega
    first
      | (rw [decide_eq_true q'] at h5; exact absurd h5 (by decide))
      | (simp at h5; omega)
  cases hwl with
  | cons w1 w2 =>
    cases w2
    cases w1 with
    | list ho hall => exact ⟨_, _, ns, rfl, rfl, ho, ints_of_wellAll ns _ hall, hlen⟩
theorem post_true (l : OpenLaw) (args : List WData) : l.row.toRowW.claim.post args (.bool true) args = true :=
  postW_of (r := l.row.toRowW) (X := (true == true))
    (show WShape.has [] (.bool true) .bool = true by first | rfl | decide | simp [WShape.has, WShape.arms, WShape.armsAll])
    (show (WTm.eq .res (.lit (.bool true))).value [] { args := args, res := some (.bool true), after := args } = some (.bool (true == true)) from w_eq_bool (w_res rfl) w_lit) rfl
theorem attach_call {l : OpenLaw} {n : Nat} {q : Program} {loose : List Str} {XP : (Str → Option Value) → Heap → Prop} {YP : World → Heap → Prop} {d : DefRec}
    (hn : l.most = some n) (hdf : d.params.defaults = [])
    (call : ∀ (w : World) (s₀ s₁ : Shared) (mg mb : Str → Option Value) (fa : Addr) (o : Obj) (pm cd doc : Value) (a : Addr) (vs : List Value) (ns : List Int),
      Ground q loose [] XP w s₀ mg mb s₁.heap → YP w s₁.heap →
      s₁.heap.get? fa = some o → o.data = .func (docDef d.name d.params d.body d.scope pm cd doc) → s₁.heap.CodeRec cd d.name → mg d.name = some (.ref fa) →
      s₁.heap.get? a = some { cls := .type "list", data := .seq vs.toArray } → IntsAre vs ns → ns.length ≤ n → s₁.gens = #[] →
      codeAny (model l.prog w) callerA (.call (.ref fa) ⟨[.ref a], []⟩) (fun r s' => r = .ok (.ret (.bool true)) ∧ OldK s₁.heap s'.heap ∧ s'.os = s₁.os ∧ AllBare s'.gens) s₁) :
    WalkO q loose XP YP l.row.toRowW d [] (fun f vs => PySem.call f vs) := by
  intro w s₀ s₁ mg mb G Y fa o pm cd doc dV kV ho hd hcd hD hmg hg args vals as hpre hlay hrd hwl hlo
  obtain rfl : dV = .none := Dflts.none hD hdf
  obtain rfl : kV = .none := Dflts.noKw hD
  obtain ⟨a, vs, ns, rfl, rfl, hobj, hints, hlen⟩ := script_of hn hpre hwl
  refine enter_call (codeAny_mono (call w s₀ s₁ mg mb fa o pm cd doc a vs ns G Y ho (fd_plain hd) hcd hmg hobj hints hlen hg) fun r s' hq => ?_)
  obtain ⟨rfl, h2, h3, h4⟩ := hq
  exact ⟨.inl ⟨.bool true, .bool true, [], rfl, fun _ => rfl, .bool true, post_true l _, fun _ => ⟨List.Pairwise.nil, fun _ hm => (nomatch hm)⟩⟩, h2, h3, h4⟩
section
variable {prog : Program} {w : World} {A : Around} {E : Value → Shared → Prop} {s : Shared} {K : Frag}
end
end Att
namespace L2
open PySem PySem.Spec PyProof.Rows
theorem vals_ints : ∀ {vs : List Value} {ns : List Int}, IntsAre vs ns → Vals (ns.map V.int) vs
  | _, _, .nil => .nil
  | _, _, .cons n t h => .cons ⟨t, rfl⟩ (vals_ints h)
end L2
namespace L2
open PySem PySem.Spec PyProof.Rows
end L2
namespace L2
open PySem PySem.Spec PyProof.Rows
def defArgs (s : Stmt) : Arguments := match s with
  | .FunctionDef _ a _ _ _ _ _ _ _ _ => a
  | _ => { posonlyargs := [], args := [], vararg := none, kwonlyargs := [], kw_defaults := [], kwarg := none, defaults := [] }
def defBody (s : Stmt) : List Stmt := match s with
  | .FunctionDef _ _ b _ _ _ _ _ _ _ => b
  | _ => []
def defScope (s : Stmt) : Scope := match s with
  | .FunctionDef _ _ _ _ _ _ sc _ _ _ => sc
  | _ => { kind := .function, names := [], isGenerator := false, isCoroutine := false }
abbrev CX0 : CXT := fun _ _ _ _ _ _ => False
structure Fun (K : PySem.W.Frag) (x qual : Str) (st : Stmt) (f : Addr) (fd : FuncData) : Prop where
  ex : ∃ (oc : Value) (od : Option Addr) (kV doc pm : Value) (an : Option Addr) (cdv ct : Value) (osl : Array (Option Value)),
    fd = PySem.W.fnOf x qual (defArgs st) (defBody st) (defScope st) .none kV doc pm an cdv ct ∧ K.lookup f = some ⟨oc, od, .func fd, osl⟩ ∧ PySem.W.codeIn K cdv qual = true
  kp : PySem.W.keepIn K (.ref f) = true
section
variable {P : Program} {w : World} {K : PySem.W.Frag} {mg : Str → Option Value} {base : Heap}
theorem Fun.ok {x qual : Str} {st : Stmt} {f : Addr} {fd : FuncData} {N ps : List Str} {k : Nat} {sp : Sp} (F : Fun K x qual st f fd) (S : FnScope N ps (defScope st)) (len : ∀ vs H Q E, sp vs H Q E → vs.length = ps.length)
    (hbody : ∀ (cdv : Value) (A : Around) (outer : List Env) (s : Shared) (H : Hp) (vs : List V) (Q : VK) (E : XK), Room k (A.deeper (envOfC qual (defScope st) s.heap.objs.size f cdv)) → sp vs H Q E →
      ∃ t, PSs (cxOf CX0 P w K mg base N qual (defScope st) f cdv A outer s H E).nox (defBody st) t ∧ t { nx := fun _ H' => Q .non H', rt := Q } (start N vs) H) : FnOk P w K mg base CX0 (k + 1) f fd ps sp := by
  obtain ⟨oc, od, kV, doc, pm, an, cdv, ct, osl, rfl, lk, hcd⟩ := F.ex
  refine fn_of lk hcd S len fun A outer s H vs Q E hr hsp => ?_
  obtain ⟨t, h, q⟩ := hbody cdv A outer s H vs Q E hr hsp
  exact ⟨t, h.nox, q⟩
theorem Fun.binds {x qual : Str} {st : Stmt} {f : Addr} {fd : FuncData} {ps : List Str} (F : Fun K x qual st f fd)
    (h : ∀ (kV doc pm : Value) (an : Option Addr) (cdv ct : Value) (us : List Value), us.length = ps.length → bindArgs (PySem.W.fnOf x qual (defArgs st) (defBody st) (defScope st) .none kV doc pm an cdv ct) ⟨us, []⟩ = pure (ps.zip us)) : Binds K fd ps [] := by
  obtain ⟨oc, od, kV, doc, pm, an, cdv, ct, osl, rfl, lk, hcd⟩ := F.ex
  exact .all (h kV doc pm an cdv ct)
end
theorem small1000 {n : Nat} (h : n ≤ 1000) : n < sizeLine := Nat.lt_of_le_of_lt h (by decide)
section
variable {X : Cx}
end
theorem iteF {A B : Prop} (h : B) : if false = true then A else B := by
  rw [if_neg Bool.false_ne_true]
  exact h
theorem iteT {A B : Prop} (h : A) : if true = true then A else B := by
  rw [if_pos rfl]
  exact h
def Same (H H' : Hp) : Prop := ∀ b o, H b = some o → H' b = some o
theorem Same.refl (H : Hp) : Same H H := fun _ _ h => h
theorem Same.trans {H H1 H2 : Hp} (a : Same H H1) (b : Same H1 H2) : Same H H2 := fun c o h => b c o (a c o h)
theorem Same.free {H H' : Hp} (e : Same H H') {l : Addr} (h : H' l = Option.none) : H l = Option.none := by
  cases q : H l with
  | none => rfl
  | some o =>
    rw [e l o q] at h
    cases h
theorem Same.seq {K : PySem.W.Frag} {H H' : Hp} {a : Addr} {xs : List V} (e : Same H H') (h : SqL K H a xs) : SqL K H' a xs := by
  rcases h with (h | ⟨o, h⟩) | h
  · exact .inl (.inl (e _ _ h))
  · exact .inl (.inr ⟨o, e _ _ h⟩)
  · exact .inr h
section
variable {κ : Type} [DecidableEq κ]
end
theorem Same.made {H H1 : Hp} {x dx C : Addr} (nx : H x = Option.none) (nd : H dx = Option.none) (k : ∀ b o, (upd (upd H dx (.own x)) x (.ins C dx [])) b = some o → b ≠ x → H1 b = some o) : Same H H1 := fun b o e =>
  k b o (by rw [upd_ne (ne_of_none e nx), upd_ne (ne_of_none e nd)]; exact e) (ne_of_none e nx)
end L2
set_option linter.all false
set_option maxRecDepth 100000
namespace Nf
open PySem L2
inductive D where
  | non | bl (b : Bool) | int (i : Int) | str (x : Str) | tup (l : List D) | lst (l : List D) | ins (c : Str) | exc (c : Str) (l : List D) | dct (ks : List Str) (l : List D)
  deriving Inhabited
inductive R where
  | ok (d : D) | own (l : List D) | exn (d : D) | bad
  deriving Inhabited
inductive Sl where
  | no | val (d : D) | own (l : List D) | dic (ks : List Str) (l : List D)
  deriving Inhabited
abbrev En := List Sl
def bnd (r : R) (f : D → R) : R := match r with
  | .ok d => f d
  | .own l => f (.lst l)
  | .exn d => .exn d
  | .bad => .bad
inductive RL where
  | ok (l : List D) | exn (d : D) | bad
  deriving Inhabited
def bndL (r : RL) (f : List D → R) : R := match r with
  | .ok l => f l
  | .exn d => .exn d
  | .bad => .bad
inductive Bf where
  | len | min | max | abs | int | divmod
  deriving DecidableEq, Inhabited
def Bf.name : Bf → Str
  | .len => "len" | .min => "min" | .max => "max" | .abs => "abs" | .int => "int" | .divmod => "divmod"
inductive Tg where
  | name (i : Nat) | tup (l : List Nat)
  deriving Inhabited
mutual
inductive E where
  | var (i : Nat) | glob (x : Str) | cn | cb (b : Bool) | ci (i : Int) | cs (x : Str)
  | bin (op : Operator) (a b : E) | neg (a : E)
  | and (a b : E) | or (a b : E) | not (a : E)
  | cmp (op : CmpOp) (a b : E) | chain (o p : CmpOp) (a b c : E)
  | ifx (c a b : E)
  | tup (l : Es) | lst (l : Es)
  | idx (a i : E)
  | slc (a lo hi : E) | nil
  | call (f : Str) (l : Es)
  | blt (f : Bf) (l : Es)
  | isi (a : E) (cs : List Str)
  | mth (a : E) (m : Str) (l : Es)
  | bitl (a : E)
  | att (a : E) (f : Str)
  | new (c : Str)
  | cpy (a : E)
  | lc (t : Tg) (it : It) (ifs : Es) (e : E)
  | callk (f : Str) (l : Es) (k : Str) (e : E)
  | anyg (t : Tg) (it : It) (e : E) | sumg (t : Tg) (it : It) (e : E)
  | cnt (a b : E)
  | sta (a : E) (l : Es)
  | dsel (l : List (Str × Str)) (e : E)
  | rvs (a : E)
  | dnw | dix (i : Nat) (k : E) | vls (a : E)
  deriving Inhabited
inductive Es where
  | nil | cons (a : E) (l : Es)
  deriving Inhabited
inductive It where
  | seq (a : E) | rng1 (a : E) | rng2 (a b : E) | rng3 (a b c : E) | enm (a : E) | rev (a : E)
  deriving Inhabited
end
mutual
inductive S where
  | set (i : Nat) (e : E) | setv (i : Nat) (e : E) | unp (l : List Nat) (e : E) | par (i j : Nat) (a b : E)
  | aug (i : Nat) (op : Operator) (e : E) | expr (e : E) | app (i : Nat) (e : E)
  | iff (c : E) (a b : Ss) | whl (c : E) (b : Ss) | for (t : Tg) (it : It) (b : Ss)
  | ret (e : E) | retN | raise (c : Str) (l : Es)
  | try (b : Ss) (c : Str) (i j : Nat)
  | pass | brk | cont | doc | frz (l : List Nat) (s : S) | put (i : Nat) (j e : E) | newd (i : Nat) | dput (i : Nat) (k e : E) | setc (i : Nat) (t : Tg) (it : It) (ifs : Es) (e : E) | setl (i : Nat) (t : Tg) (it : It) (ifs : Es) (e : E)
  deriving Inhabited
inductive Ss where
  | nil | cons (s : S) (l : Ss)
  deriving Inhabited
end
structure Fe where
  np : Nat
  dv : List D
  phi : List D → R
structure Gm where
  con : Str → Option D
  fn : Str → Option Fe
  isi : Str → Str → Option Bool
  att : Str → Str → Option Nat
  new : Str → Bool
  exc : Str → Bool
  mth : Str → Str → Option Fe
  kw : Str → Str → Nat
  fuel : Nat
mutual
def toPy : D → Option PyData
  | .non => some .none
  | .bl b => some (.bool b)
  | .int i => some (.int i)
  | .str x => some (.str x)
  | .tup l => match toPys l with
    | some l => some (.tuple l)
    | none => none
  | .lst l => match toPys l with
    | some l => some (.list l)
    | none => none
  | .ins _ => none
  | .exc _ _ => none
  | .dct _ _ => none
def toPys : List D → Option (List PyData)
  | [] => some []
  | d :: r => match toPy d, toPys r with
    | some x, some y => some (x :: y)
    | _, _ => none
end
def deq (x y : D) : Option Bool := match toPy x, toPy y with
  | some a, some b => if SeqAt.shaped a && SeqAt.shaped b then some (PyData.eqv a b) else none
  | _, _ => none
def flatD : D → Bool
  | .non => true | .bl _ => true | .int _ => true | .str _ => true
  | _ => false
def eqD : D → D → Bool
  | .non, .non => true
  | .bl a, .bl b => a == b
  | .bl a, .int j => (if a then 1 else 0) == j
  | .int i, .bl b => i == (if b then 1 else 0)
  | .int i, .int j => i == j
  | .str x, .str y => x == y
  | _, _ => false
def okI (i : Int) : R := .ok (.int i)
def okB (b : Bool) : R := .ok (.bl b)
def divOk (j : Int) : Bool := decide (0 < j) && decide (j.natAbs.log2 < 9000)
def mulOk (i j : Int) : Bool := decide (Builtin.Int.intBits i + Builtin.Int.intBits j ≤ 134217728) || (decide (Builtin.Int.intBits i ≤ 64) || decide (Builtin.Int.intBits j ≤ 64))
def shlOk (i j : Int) : Bool := decide (0 ≤ j) && decide ((Builtin.Int.intBits i : Int) + j ≤ 2 ^ 27)
def powOk (i j : Int) : Bool := decide (0 ≤ j) && decide ((Builtin.Int.intBits i : Int) * j ≤ 2 ^ 27)
def binI (op : Operator) (i j : Int) : R := match op with
  | .Add => okI (i + j)
  | .Sub => okI (i - j)
  | .Mult => if mulOk i j then okI (i * j) else .bad
  | .FloorDiv => if divOk j then okI (i / j) else .bad
  | .Mod => if 0 < j then okI (i % j) else .bad
  | .Pow => if powOk i j then okI (i ^ j.toNat) else .bad
  | .LShift => if shlOk i j then okI (i * 2 ^ j.toNat) else .bad
  | .RShift => if 0 ≤ j then okI (i / 2 ^ j.toNat) else .bad
  | .BitAnd => okI (Builtin.bitAnd i j)
  | .BitOr => okI (Builtin.bitOr i j)
  | .BitXor => okI (Builtin.bitXor i j)
  | _ => .bad
def repOk (n : Nat) (j : Int) : Bool := decide (n * j.toNat ≤ sizeLine) && (decide (-(2 ^ 63) ≤ j) && decide (j < 2 ^ 63))
def repL {α : Type} (l : List α) : Nat → List α
  | 0 => []
  | n + 1 => l ++ repL l n
def binop (op : Operator) (x y : D) : R := match x, y with
  | .int i, .int j => binI op i j
  | .str i, .str j => match op with
    | .Add => if i.length + j.length ≤ sizeLine then .ok (.str (i ++ j)) else .bad
    | _ => .bad
  | .lst i, .lst j => match op with
    | .Add => if i.length + j.length ≤ sizeLine then .own (i ++ j) else .bad
    | _ => .bad
  | .lst i, .int j => match op with
    | .Mult => if repOk i.length j then .own (repL i j.toNat) else .bad
    | _ => .bad
  | _, _ => .bad
def augop (op : Operator) (x y : D) : R := match x with
  | .lst _ => .bad
  | x => binop op x y
def cmpI (op : CmpOp) (i j : Int) : R := match op with
  | .Lt => okB (decide (i < j))
  | .LtE => okB (decide (i ≤ j))
  | .Gt => okB (decide (j < i))
  | .GtE => okB (decide (j ≤ i))
  | _ => .bad
def isNon : D → Bool
  | .non => true
  | _ => false
def inD (x : D) (l : List D) : Option Bool := if flatD x && l.all flatD then some (l.any fun y => eqD y x) else none
def blbl (f : Bool → Bool → Bool) : D → D → R
  | .bl a, .bl b => okB (f a b)
  | _, _ => .bad
def cmpop (op : CmpOp) (x y : D) : R := match op with
  | .Eq => match deq x y with
    | some b => okB b
    | none => .bad
  | .NotEq => match deq x y with
    | some b => okB (!b)
    | none => .bad
  | .Is => if isNon y then okB (isNon x) else blbl (fun a b => a == b) x y
  | .IsNot => if isNon y then okB (!isNon x) else blbl (fun a b => a != b) x y
  | .In => match y with
    | .lst l => match inD x l with
      | some b => okB b
      | none => .bad
    | .tup l => match inD x l with
      | some b => okB b
      | none => .bad
    | _ => .bad
  | .NotIn => match y with
    | .lst l => match inD x l with
      | some b => okB (!b)
      | none => .bad
    | .tup l => match inD x l with
      | some b => okB (!b)
      | none => .bad
    | _ => .bad
  | op => match x, y with
    | .int i, .int j => cmpI op i j
    | _, _ => .bad
def truth : D → Option Bool
  | .non => some false
  | .bl b => some b
  | .int i => some (i != 0)
  | .str x => if x.length ≤ sizeLine then some ((x.length : Int) != 0) else none
  | .tup l => some (!l.isEmpty)
  | .lst l => some (!l.isEmpty)
  | _ => none
def dgL : List Str → List D → Str → Option D
  | q :: ks, d :: l, k => if q = k then some d else dgL ks l k
  | _, _, _ => none
def dpA {α : Type} : List Str → List α → Str → α → List α
  | q :: ks, d :: l, k, x => (if q = k then x else d) :: dpA ks l k x
  | _, _, _, _ => []
def dpH (ks : List Str) (k : Str) : Bool := ks.any fun q => decide (q = k)
def dpK (ks : List Str) (l : List D) (k : Str) (x : D) : List Str × List D := if dpH ks k then (ks, dpA ks l k x) else (ks ++ [k], l ++ [x])
def idxop (x y : D) : R := match y with
  | .str k => match x with
    | .dct ks l => match dgL ks l k with
      | some d => .ok d
      | none => .bad
    | _ => .bad
  | .int i => match x with
    | .tup l => match atI l i with
      | some d => .ok d
      | none => .bad
    | .lst l => match atI l i with
      | some d => .ok d
      | none => .bad
    | .str z => if z.length ≤ sizeLine then match atI z.cps.toList i with
      | some c => .ok (.str ⟨#[c]⟩)
      | none => .bad else .bad
    | _ => .bad
  | _ => .bad
def tyN : D → Str
  | .non => "NoneType" | .bl _ => "bool" | .int _ => "int" | .str _ => "str" | .tup _ => "tuple" | .lst _ => "list" | .ins c => c | .exc c _ => c | .dct _ _ => "dict"
def isiAny (G : Gm) (t : Str) : List Str → Option Bool
  | [] => some false
  | c :: r => match G.isi t c, isiAny G t r with
    | some a, some b => some (a || b)
    | _, _ => none
def lenD : D → Option Int
  | .str x => if x.length ≤ sizeLine then some (x.length : Int) else none
  | .tup l => some (l.length : Int)
  | .lst l => some (l.length : Int)
  | _ => none
def bltop (f : Bf) (l : List D) : R := match f with
  | .len => match l with
    | [x] => match lenD x with
      | some n => okI n
      | none => .bad
    | _ => .bad
  | .min => match l with
    | [.int i, .int j] => okI (if j < i then j else i)
    | [.int i, .int j, .int k] => okI (if k < (if j < i then j else i) then k else (if j < i then j else i))
    | _ => .bad
  | .max => match l with
    | [.int i, .int j] => okI (if j > i then j else i)
    | _ => .bad
  | .abs => match l with
    | [.int i] => okI (if i < 0 then -i else i)
    | _ => .bad
  | .int => match l with
    | [.int i] => okI i
    | [.bl b] => okI (if b then 1 else 0)
    | _ => .bad
  | .divmod => match l with
    | [.int i, .int j] => if divOk j then .ok (.tup [.int (i / j), .int (i % j)]) else .bad
    | _ => .bad
def useFn (o : Option Fe) (l : List D) : R := match o with
  | none => .bad
  | some f => if l.length ≤ f.np ∧ f.np ≤ l.length + f.dv.length then f.phi (l ++ f.dv.drop (f.dv.length - (f.np - l.length))) else .bad
def bitlop (x : D) : R := match x with
  | .int i => okI (Builtin.Int.intBits i : Nat)
  | _ => .bad
def mthop (G : Gm) (x : D) (m : Str) (r : RL) : R := match x with
  | .ins c => match G.mth c m with
    | some fe => bndL r fun ds => useFn (some fe) (x :: ds)
    | none => .bad
  | _ => .bad
def attop (G : Gm) (x : D) (f : Str) : R := match x with
  | .exc c l => match G.att c f with
    | some k => match l[k]? with
      | some d => .ok d
      | none => .bad
    | none => .bad
  | _ => .bad
def look (s : En) (i : Nat) : R := match s[i]? with
  | some (.val d) => .ok d
  | _ => .bad
def rngL (lo : Int) : Nat → List D
  | 0 => []
  | n + 1 => .int lo :: rngL (lo + 1) n
def rngC (lo c : Int) : Nat → List D
  | 0 => []
  | n + 1 => .int lo :: rngC (lo + c) c n
def rngOk (i : Int) : Bool := Nat.blt i.natAbs 4611686018427387904
def enmL (i : Int) : List D → List D
  | [] => []
  | d :: r => .tup [.int i, d] :: enmL (i + 1) r
def itemsOf : D → RL
  | .tup l => .ok l
  | .lst l => .ok l
  | _ => .bad
def enmOf : D → RL
  | .lst l => .ok (enmL 0 l)
  | .tup l => .ok (enmL 0 l)
  | _ => .bad
def bndI (r : R) (f : D → RL) : RL := match r with
  | .ok d => f d
  | .own l => f (.lst l)
  | .exn d => .exn d
  | .bad => .bad
def bndP (r : R) (f : Option Int → R) : R := match r with
  | .ok .non => f none
  | .ok (.int i) => f (some i)
  | .exn d => .exn d
  | _ => .bad
def cutD {α : Type} (xs : List α) (lo hi : Option Int) : List α := (xs.drop (HT.sIx xs.length 0 lo)).take (HT.sIx xs.length xs.length hi - HT.sIx xs.length 0 lo)
def slcop (x : D) (lo hi : Option Int) : R := match x with
  | .lst xs => .own (cutD xs lo hi)
  | .str z => if z.length ≤ sizeLine then .ok (.str (cutS z lo hi)) else .bad
  | _ => .bad
def cpyop : D → R
  | .lst l => .own l
  | .tup l => .own l
  | _ => .bad
def tcv (x : D) : R := match truth x with
  | some b => okB b
  | none => .bad
def tc (m : Bool) (r : R) : R := match m with
  | true => bnd r tcv
  | false => r
def negop (x : D) : R := match x with
  | .int i => okI (-i)
  | _ => .bad
def notop (x : D) : R := match x with
  | .bl b => okB (!b)
  | _ => .bad
def cond (z : D) (a b : R) : R := match z with
  | .bl true => a
  | .bl false => b
  | _ => .bad
def isiop (G : Gm) (cs : List Str) (x : D) : R := match isiAny G (tyN x) cs with
  | some b => okB b
  | none => .bad
def conop (o : Option D) : R := match o with
  | some d => .ok d
  | none => .bad
def tupop (ds : List D) : R := if ds.length ≤ sizeLine then .ok (.tup ds) else .bad
def lstop (ds : List D) : R := if ds.length ≤ sizeLine then .own ds else .bad
def rng1op (x : D) : RL := match x with
  | .int i => if rngOk i then .ok (rngL 0 i.toNat) else .bad
  | _ => .bad
def rng2op (x y : D) : RL := match x, y with
  | .int i, .int j => if rngOk i && rngOk j then .ok (rngL i (j - i).toNat) else .bad
  | _, _ => .bad
def rng3N (i j c : Int) : Nat := if j ≤ i then 0 else ((j - i - 1) / c + 1).toNat
def rng3op (x y z : D) : RL := match x, y, z with
  | .int i, .int j, .int c => if rngOk i && (rngOk j && (decide (0 < c) && decide (c < 1073741824))) then .ok (rngC i c (rng3N i j c)) else .bad
  | _, _, _ => .bad
def consL (x : D) (r : RL) : RL := match r with
  | .ok ds => .ok (x :: ds)
  | .exn d => .exn d
  | .bad => .bad
def putL : List Nat → List D → En → Option En
  | [], [], s => some s
  | i :: r, d :: l, s => putL r l (s.set i (.val d))
  | _, _, _ => none
def putT : Tg → D → En → Option En
  | .name i, d, s => some (s.set i (.val d))
  | .tup l, .tup ds, s => putL l ds s
  | _, _, _ => none
def cln : En → En
  | [] => []
  | .val d :: s => .val d :: cln s
  | .own _ :: s => .no :: cln s
  | .dic _ _ :: s => .no :: cln s
  | .no :: s => .no :: cln s
def Tg.ix : Tg → List Nat
  | .name i => [i]
  | .tup l => l
def wip (s : En) : List Nat → En
  | [] => s
  | i :: r => (wip s r).set i .no
def lcB (b : R) (r0 : R) (acc : List D) (k : List D → R) : R := match b with
  | .ok (.bl true) => match r0 with
    | .ok d => if acc.length < sizeLine then k (acc ++ [d]) else .bad
    | .own l => if acc.length < sizeLine then k (acc ++ [.lst l]) else .bad
    | _ => .bad
  | .ok (.bl false) => k acc
  | _ => .bad
def lcO (o : Option En) (k : En → R) : R := match o with
  | some s => k s
  | none => .bad
def lcL (t : Tg) (test : En → R) (elt : En → R) (s : En) : List D → List D → R
  | [], acc => .own acc
  | x :: r, acc => lcO (putT t x s) fun s1 => lcB (test s1) (elt s1) acc (lcL t test elt s r)
def anB (b r0 k : R) : R := match b with
  | .ok (.bl true) => match r0 with
    | .ok (.bl true) => okB true
    | .ok (.bl false) => k
    | _ => .bad
  | .ok (.bl false) => k
  | _ => .bad
def anL (t : Tg) (test elt : En → R) (s : En) : List D → R
  | [] => okB false
  | x :: r => lcO (putT t x s) fun s1 => anB (test s1) (elt s1) (anL t test elt s r)
def suB (b r0 : R) (k0 : R) (k : Int → R) : R := match b with
  | .ok (.bl true) => match r0 with
    | .ok (.int i) => k i
    | _ => .bad
  | .ok (.bl false) => k0
  | _ => .bad
def suL (t : Tg) (test elt : En → R) (s : En) : List D → Int → R
  | [], acc => .ok (.int acc)
  | x :: r, acc => lcO (putT t x s) fun s1 => suB (test s1) (elt s1) (suL t test elt s r acc) fun i => suL t test elt s r (acc + i)
def yes : En → R := fun _ => okB true
def intsOf : List D → Option (List Int)
  | [] => some []
  | .int i :: r => match intsOf r with
    | some l => some (i :: l)
    | none => none
  | _ :: _ => none
def cntop (x y : D) : R := match x, y with
  | .lst l, .int k => match intsOf l with
    | some ns => okI (ns.count k : Nat)
    | none => .bad
  | _, _ => .bad
def cntX (x : D) (r : R) : R := match x with
  | .lst l => bnd r fun y => cntop (.lst l) y
  | _ => .bad
def rvsop : D → R
  | .lst l => .own l.reverse
  | _ => .bad
def revOf : D → RL
  | .lst l => .ok l.reverse
  | _ => .bad
def dsK (l : List (Str × Str)) : List (Key × V) := mergeK [] (l.map fun kv => ((.inr kv.1 : Key), V.str kv.2))
def dselop (l : List (Str × Str)) (d : D) : R := match d with
  | .str k => match valV (dsK l) (.inr k) with
    | some (.str v) => .ok (.str v)
    | _ => .bad
  | _ => .bad
def vlsop : D → R
  | .dct _ l => if l.length ≤ sizeLine then .own l else .bad
  | _ => .bad
def dixop (o : Option Sl) (r : R) : R := match o with
  | some (.dic ks l) => bnd r fun y => idxop (.dct ks l) y
  | some (.val (.dct ks l)) => bnd r fun y => idxop (.dct ks l) y
  | _ => .bad
def staX (x : D) (r : RL) : R := match x with
  | .tup ds => bndL r fun es => tupop (ds ++ es)
  | _ => .bad
mutual
def evm (G : Gm) : E → Bool → En → R
  | .var i, m, s => tc m (look s i)
  | .glob x, m, s => tc m (conop (G.con x))
  | .cn, m, _ => tc m (.ok .non)
  | .cb b, m, _ => tc m (.ok (.bl b))
  | .ci i, m, _ => tc m (.ok (.int i))
  | .cs x, m, _ => tc m (.ok (.str x))
  | .bin op a b, m, s => tc m (bnd (evm G a false s) fun x => bnd (evm G b false s) fun y => binop op x y)
  | .neg a, m, s => tc m (bnd (evm G a false s) negop)
  | .and a b, m, s => bnd (evm G a m s) fun x => cond x (evm G b m s) (okB false)
  | .or a b, m, s => bnd (evm G a m s) fun x => cond x (okB true) (evm G b m s)
  | .not a, m, s => bnd (evm G a m s) notop
  | .cmp op a b, _, s => bnd (evm G a false s) fun x => bnd (evm G b false s) fun y => cmpop op x y
  | .chain o p a b c, _, s => bnd (evm G a false s) fun x => bnd (evm G b false s) fun y => bnd (cmpop o x y) fun z => cond z (bnd (evm G c false s) fun w => cmpop p y w) (okB false)
  | .ifx c a b, m, s => match m with
    | true => .bad
    | false => bnd (evm G c true s) fun z => cond z (evm G a false s) (evm G b false s)
  | .tup l, m, s => tc m (bndL (evs G l s) tupop)
  | .lst l, m, s => tc m (bndL (evs G l s) lstop)
  | .idx a i, m, s => tc m (bnd (evm G a false s) fun x => bnd (evm G i false s) fun y => idxop x y)
  | .slc a lo hi, m, s => tc m (bnd (evm G a false s) fun x => bndP (evm G lo false s) fun l => bndP (evm G hi false s) fun h => slcop x l h)
  | .nil, _, _ => .ok .non
  | .call f l, m, s => tc m (bndL (evs G l s) fun ds => useFn (G.fn f) ds)
  | .blt f l, m, s => tc m (bndL (evs G l s) fun ds => bltop f ds)
  | .isi a cs, m, s => tc m (bnd (evm G a false s) (isiop G cs))
  | .mth a n l, m, s => tc m (bnd (evm G a false s) fun x => mthop G x n (evs G l s))
  | .bitl a, m, s => tc m (bnd (evm G a false s) bitlop)
  | .att a f, m, s => tc m (bnd (evm G a false s) fun x => attop G x f)
  | .new c, m, _ => tc m (if G.new c then .ok (.ins c) else .bad)
  | .cpy a, m, s => tc m (bnd (evm G a false s) cpyop)
  | .lc t it ifs e, m, s => tc m (bndL (evi G it s) fun xs => lcL t (evcs G ifs) (evm G e false) (wip (cln s) t.ix) xs [])
  | .callk f l k e, m, s => tc m (bndL (evs G l s) fun ds => bnd (evm G e false s) fun d => if G.kw f k = ds.length + 1 then useFn (G.fn f) (ds ++ [d]) else .bad)
  | .anyg t it e, m, s => tc m (bndL (evi G it s) fun xs => anL t yes (evm G e false) (wip (cln s) t.ix) xs)
  | .sumg t it e, m, s => tc m (bndL (evi G it s) fun xs => suL t yes (evm G e false) (wip (cln s) t.ix) xs 0)
  | .cnt a b, m, s => tc m (bnd (evm G a false s) fun x => cntX x (evm G b false s))
  | .sta a l, m, s => tc m (bnd (evm G a false s) fun x => staX x (evs G l s))
  | .dsel l e, m, s => tc m (bnd (evm G e false s) (dselop l))
  | .rvs a, m, s => tc m (bnd (evm G a false s) rvsop)
  | .dnw, m, _ => tc m (.ok (.dct [] []))
  | .dix i k, m, s => tc m (dixop s[i]? (evm G k false s))
  | .vls a, m, s => tc m (bnd (evm G a false s) vlsop)
def evs (G : Gm) : Es → En → RL
  | .nil, _ => .ok []
  | .cons a l, s => bndI (evm G a false s) fun x => consL x (evs G l s)
def evcs (G : Gm) : Es → En → R
  | .nil, _ => okB true
  | .cons a _, s => evm G a true s
def evi (G : Gm) : It → En → RL
  | .seq a, s => bndI (evm G a false s) itemsOf
  | .rng1 a, s => bndI (evm G a false s) rng1op
  | .rng2 a b, s => bndI (evm G a false s) fun x => bndI (evm G b false s) fun y => rng2op x y
  | .rng3 a b c, s => bndI (evm G a false s) fun x => bndI (evm G b false s) fun y => bndI (evm G c false s) fun z => rng3op x y z
  | .enm a, s => bndI (evm G a false s) enmOf
  | .rev a, s => bndI (evm G a false s) revOf
end
abbrev ev (G : Gm) (e : E) : En → R := evm G e false
abbrev evc (G : Gm) (e : E) : En → R := evm G e true
inductive SR where
  | nx (s : En) | rt (d : D) | rto (l : List D) | bk (s : En) | ct (s : En) | ex (d : D) (s : En) | bad
  deriving Inhabited
def sbn (s : En) (r : R) (f : D → SR) : SR := match r with
  | .ok d => f d
  | .own l => f (.lst l)
  | .exn d => .ex d s
  | .bad => .bad
def lpn (r : SR) (k : En → SR) : SR := match r with
  | .nx s => k s
  | .ct s => k s
  | .bk s => .nx s
  | .rt d => .rt d
  | .rto l => .rto l
  | .ex d s => .ex d s
  | .bad => .bad
def sqn (r : SR) (k : En → SR) : SR := match r with
  | .nx s => k s
  | .ct s => .ct s
  | .bk s => .bk s
  | .rt d => .rt d
  | .rto l => .rto l
  | .ex d s => .ex d s
  | .bad => .bad
def optn (o : Option En) (k : En → SR) : SR := match o with
  | some s => k s
  | none => .bad
def lpc (s : En) (r : R) (a b : SR) : SR := match r with
  | .ok (.bl true) => a
  | .ok (.bl false) => b
  | .exn d => .ex d s
  | _ => .bad
def sbi (s : En) (r : RL) (k : List D → SR) : SR := match r with
  | .ok l => k l
  | .exn d => .ex d s
  | .bad => .bad
def forL (t : Tg) (b : En → SR) : List D → En → SR
  | [], s => .nx s
  | x :: r, s => optn (putT t x s) fun s1 => lpn (b s1) (forL t b r)
def whl (c : En → R) (b : En → SR) : Nat → En → SR
  | 0, _ => .bad
  | n + 1, s => lpc s (c s) (lpn (b s) (whl c b n)) (.nx s)
def frzS : List Nat → En → En
  | [], s => s
  | i :: r, s => frzS r (match s[i]? with
    | some (.own l) => s.set i (.val (.lst l))
    | some (.dic ks l) => s.set i (.val (.dct ks l))
    | _ => s)
def exop (c : Str) (ds : List D) (s : En) : SR := if ds.length ≤ sizeLine then .ex (.exc c ds) s else .bad
def tryn (G : Gm) (c : Str) (i j : Nat) (r : SR) : SR := match r with
  | .ex d s1 => match G.isi (tyN d) c with
    | some true => .nx (((s1.set i (.val d)).set j (.val d)).set i .no)
    | _ => .bad
  | .nx s => .nx s
  | .rt d => .rt d
  | .rto l => .rto l
  | .bk s => .bk s
  | .ct s => .ct s
  | .bad => .bad
def stn (i : Nat) (s : En) (r : R) : SR := match r with
  | .ok d => .nx (s.set i (.val d))
  | .own l => .nx (s.set i (.own l))
  | .exn d => .ex d s
  | .bad => .bad
def rtn (s : En) (r : R) : SR := match r with
  | .ok d => .rt d
  | .own l => .rto l
  | .exn d => .ex d s
  | .bad => .bad
def rtv (o : Option Sl) : SR := match o with
  | some (.val d) => .rt d
  | some (.own l) => .rto l
  | _ => .bad
mutual
def exe (G : Gm) : S → En → SR
  | .set i e, s => stn i s (ev G e s)
  | .setv i e, s => sbn s (ev G e s) fun d => .nx (s.set i (.val d))
  | .unp l e, s => sbn s (ev G e s) fun d => match d with
    | .tup ds => optn (putL l ds s) .nx
    | .lst ds => optn (putL l ds s) .nx
    | _ => .bad
  | .par i j a b, s => sbn s (ev G a s) fun x => sbn s (ev G b s) fun y => .nx ((s.set i (.val x)).set j (.val y))
  | .aug i op e, s => sbn s (look s i) fun x => sbn s (ev G e s) fun y => sbn s (augop op x y) fun z => .nx (s.set i (.val z))
  | .expr e, s => sbn s (ev G e s) fun _ => .nx s
  | .app i e, s => match s[i]? with
    | some (.own l) => sbn s (ev G e s) fun x => if l.length < sizeLine then .nx (s.set i (.own (l ++ [x]))) else .bad
    | _ => .bad
  | .iff c a b, s => lpc s (evc G c s) (exs G a s) (exs G b s)
  | .whl c b, s => whl (evc G c) (exs G b) G.fuel s
  | .for t it b, s => sbi s (evi G it s) fun xs => forL t (exs G b) xs s
  | .ret e, s => match e with
    | .var i => rtv s[i]?
    | e => rtn s (ev G e s)
  | .retN, _ => .rt .non
  | .raise c l, s => sbi s (evs G l s) fun ds => exop c ds s
  | .try b c i j, s => tryn G c i j (exs G b s)
  | .pass, s => .nx s
  | .brk, s => .bk s
  | .cont, s => .ct s
  | .doc, s => .nx s
  | .frz l st, s => exe G st (frzS l s)
  | .setc i t it ifs e, s => sbn s (ev G (.lc t it ifs e) s) fun d => .nx (s.set i (.val d))
  | .setl i t it ifs e, s => stn i s (ev G (.lc t it ifs e) s)
  | .put i j e, s => match s[i]? with
    | some (.own l) => sbn s (ev G e s) fun x => sbn s (ev G j s) fun y => match y with
      | .int k => if 0 ≤ k ∧ k < l.length then .nx (s.set i (.own (l.set k.toNat x))) else .bad
      | _ => .bad
    | _ => .bad
  | .newd i, s => .nx (s.set i (.dic [] []))
  | .dput i k e, s => match s[i]? with
    | some (.dic ks l) => sbn s (ev G e s) fun x => sbn s (ev G k s) fun y => match y with
      | .str w => if l.length < sizeLine then .nx (s.set i (.dic (dpK ks l w x).1 (dpK ks l w x).2)) else .bad
      | _ => .bad
    | _ => .bad
def exs (G : Gm) : Ss → En → SR
  | .nil, s => .nx s
  | .cons a l, s => sqn (exe G a s) (exs G l)
end
structure Fd where
  nn : Nat
  body : Ss
def evR (r : SR) : R := match r with
  | .rt d => .ok d
  | .rto l => .own l
  | .nx _ => .ok .non
  | .ex d _ => .exn d
  | _ => .bad
def evF (G : Gm) (f : Fd) (l : List D) : R := evR (exs G f.body (l.map Sl.val ++ List.replicate (f.nn - l.length) Sl.no))
end Nf
set_option linter.all false
set_option maxRecDepth 100000
set_option autoImplicit false
namespace Nf
open PySem L2 PySem.Spec PyProof.Rows
abbrev Fz := Addr → Prop
def TF (K : PySem.W.Frag) (H : Hp) (F : Fz) (a : Addr) (xs : List V) : Prop :=
  (F a ∧ Rd H a (.tup xs)) ∨ ∃ (o : Obj) (its : Array Value) (n : Nat), K.lookup a = some o ∧ o.cls = .type "tuple" ∧ o.data = .seq its n ∧ its.size ≤ sizeLine ∧ Vals xs its.toList
def LF (K : PySem.W.Frag) (H : Hp) (F : Fz) (a : Addr) (xs : List V) : Prop :=
  (F a ∧ Rd H a (.lst xs)) ∨ ∃ (o : Obj) (its : Array Value) (n : Nat), K.lookup a = some o ∧ o.cls = .type "list" ∧ o.dict = none ∧ o.data = .seq its n ∧ its.size ≤ sizeLine ∧ Vals xs its.toList
theorem TF.sq {K : PySem.W.Frag} {H : Hp} {F : Fz} {a : Addr} {xs : List V} (h : TF K H F a xs) : SqT K H a xs := h.elim (fun z => .inl z.2) .inr
theorem LF.sq {K : PySem.W.Frag} {H : Hp} {F : Fz} {a : Addr} {xs : List V} (h : LF K H F a xs) : SqL K H a xs := h.elim (fun z => .inl z.2) .inr
def ExcAt (a C : Addr) (h : Heap) : Prop := ∃ o vs, h.get? a = some o ∧ o.cls = .ref C ∧ o.data = .fields vs
def excO (a C : Addr) : HO := .ext (ExcAt a C)
def zK : List Str → List V → List (Key × V)
  | k :: ks, x :: xs => (.inr k, x) :: zK ks xs
  | _, _ => []
def Sl.mine : Sl → Bool
  | .own _ => true
  | .dic _ _ => true
  | _ => false
mutual
inductive Rp (K : PySem.W.Frag) (mg : Str → Option Value) (H : Hp) (F : Fz) : V → D → Prop
  | non : Rp K mg H F .non .non
  | bl (b : Bool) : Rp K mg H F (.bl b) (.bl b)
  | int (i : Int) : Rp K mg H F (.int i) (.int i)
  | str (x : Str) : Rp K mg H F (.str x) (.str x)
  | tup {a : Addr} {xs : List V} {ds : List D} : TF K H F a xs → Rps K mg H F xs ds → Rp K mg H F (.ref a) (.tup ds)
  | lst {a : Addr} {xs : List V} {ds : List D} : LF K H F a xs → Rps K mg H F xs ds → Rp K mg H F (.ref a) (.lst ds)
  | ins {a C dx : Addr} {c : Str} : F a → mg c = some (.ref C) → H a = some (.ins C dx []) → Rp K mg H F (.ref a) (.ins c)
  | exc {a C : Addr} {c : Str} {ds : List D} : F a → mg c = some (.ref C) → H a = some (excO a C) → Rp K mg H F (.ref a) (.exc c ds)
  | dct {a : Addr} {ks : List Str} {xs : List V} {ds : List D} : F a → H a = some (.dK (zK ks xs)) → ks.length = xs.length → Rps K mg H F xs ds → Rp K mg H F (.ref a) (.dct ks ds)
inductive Rps (K : PySem.W.Frag) (mg : Str → Option Value) (H : Hp) (F : Fz) : List V → List D → Prop
  | nil : Rps K mg H F [] []
  | cons {v : V} {vs : List V} {d : D} {ds : List D} : Rp K mg H F v d → Rps K mg H F vs ds → Rps K mg H F (v :: vs) (d :: ds)
end
structure Grow (H : Hp) (F : Fz) (H' : Hp) (F' : Fz) : Prop where
  same : Same H H'
  sub : ∀ a, F a → F' a
  old : ∀ a o, H a = some o → F' a → F a
  dom : ∀ a, F' a → ∃ o, H' a = some o
theorem Grow.refl {H : Hp} {F : Fz} (d : ∀ a, F a → ∃ o, H a = some o) : Grow H F H F := ⟨Same.refl H, fun _ h => h, fun _ _ _ h => h, d⟩
theorem Grow.trans {H H1 H2 : Hp} {F F1 F2 : Fz} (a : Grow H F H1 F1) (b : Grow H1 F1 H2 F2) : Grow H F H2 F2 :=
  ⟨a.same.trans b.same, fun x h => b.sub x (a.sub x h), fun x o e h => a.old x o e (b.old x o (a.same x o e) h), b.dom⟩
section
variable {K : PySem.W.Frag} {mg : Str → Option Value} {H H' : Hp} {F F' : Fz}
theorem TF.grow {a : Addr} {xs : List V} (g : Grow H F H' F') (h : TF K H F a xs) : TF K H' F' a xs := by
  rcases h with ⟨f, r⟩ | h
  · exact .inl ⟨g.sub _ f, r.elim (fun z => .inl (g.same _ _ z)) fun ⟨o, z⟩ => .inr ⟨o, g.same _ _ z⟩⟩
  · exact .inr h
theorem LF.grow {a : Addr} {xs : List V} (g : Grow H F H' F') (h : LF K H F a xs) : LF K H' F' a xs := by
  rcases h with ⟨f, r⟩ | h
  · exact .inl ⟨g.sub _ f, r.elim (fun z => .inl (g.same _ _ z)) fun ⟨o, z⟩ => .inr ⟨o, g.same _ _ z⟩⟩
  · exact .inr h
structure Keep (H : Hp) (F : Fz) (H' : Hp) (F' : Fz) : Prop where
  at' : ∀ a o, F a → H a = some o → H' a = some o
  sub : ∀ a, F a → F' a
theorem Keep.refl (H : Hp) (F : Fz) : Keep H F H F := ⟨fun _ _ _ e => e, fun _ h => h⟩
theorem Keep.trans {H H1 H2 : Hp} {F F1 F2 : Fz} (a : Keep H F H1 F1) (b : Keep H1 F1 H2 F2) : Keep H F H2 F2 := ⟨fun x o f e => b.at' x o (a.sub x f) (a.at' x o f e), fun x f => b.sub x (a.sub x f)⟩
theorem Grow.keep (g : Grow H F H' F') : Keep H F H' F' := ⟨fun a o _ e => g.same a o e, g.sub⟩
theorem TF.keep {a : Addr} {xs : List V} (g : Keep H F H' F') (h : TF K H F a xs) : TF K H' F' a xs := by
  rcases h with ⟨f, r⟩ | h
  · exact .inl ⟨g.sub _ f, r.elim (fun z => .inl (g.at' _ _ f z)) fun ⟨o, z⟩ => .inr ⟨o, g.at' _ _ f z⟩⟩
  · exact .inr h
theorem LF.keep {a : Addr} {xs : List V} (g : Keep H F H' F') (h : LF K H F a xs) : LF K H' F' a xs := by
  rcases h with ⟨f, r⟩ | h
  · exact .inl ⟨g.sub _ f, r.elim (fun z => .inl (g.at' _ _ f z)) fun ⟨o, z⟩ => .inr ⟨o, g.at' _ _ f z⟩⟩
  · exact .inr h
mutual
theorem Rp.keep (g : Keep H F H' F') : ∀ {d : D} {v : V}, Rp K mg H F v d → Rp K mg H' F' v d
  | .non, _, h => by cases h; exact .non
  | .bl b, _, h => by cases h; exact .bl b
  | .int i, _, h => by cases h; exact .int i
  | .str x, _, h => by cases h; exact .str x
  | .tup l, _, h => by
    cases h with
    | tup a b => exact .tup (a.keep g) (Rps.keep g b)
  | .lst l, _, h => by
    cases h with
    | lst a b => exact .lst (a.keep g) (Rps.keep g b)
  | .ins c, _, h => by
    cases h with
    | ins a b e => exact .ins (g.sub _ a) b (g.at' _ _ a e)
  | .exc c l, _, h => by
    cases h with
    | exc a b e => exact .exc (g.sub _ a) b (g.at' _ _ a e)
  | .dct ks l, _, h => by
    cases h with
    | dct a e hl b => exact .dct (g.sub _ a) (g.at' _ _ a e) hl (Rps.keep g b)
theorem Rps.keep (g : Keep H F H' F') : ∀ {ds : List D} {vs : List V}, Rps K mg H F vs ds → Rps K mg H' F' vs ds
  | [], _, h => by cases h; exact .nil
  | d :: ds, _, h => by
    cases h with
    | cons a b => exact .cons (Rp.keep g a) (Rps.keep g b)
end
theorem Rp.grow (g : Grow H F H' F') {d : D} {v : V} (h : Rp K mg H F v d) : Rp K mg H' F' v d := h.keep g.keep
theorem Rps.grow (g : Grow H F H' F') {ds : List D} {vs : List V} (h : Rps K mg H F vs ds) : Rps K mg H' F' vs ds := h.keep g.keep
theorem Rps.length : ∀ {vs : List V} {ds : List D}, Rps K mg H F vs ds → vs.length = ds.length
  | _, _, .nil => rfl
  | _, _, .cons _ b => by simp [Rps.length b]
theorem Rps.get : ∀ {vs : List V} {ds : List D} {i : Nat} {d : D}, Rps K mg H F vs ds → ds[i]? = some d → ∃ v, vs[i]? = some v ∧ Rp K mg H F v d
  | _, _, _, _, .nil, e => by simp at e
  | _, _, 0, _, .cons a _, e => by simp at e; subst e; exact ⟨_, rfl, a⟩
  | _, _, i + 1, d, .cons _ b, e => by
    obtain ⟨v, h1, h2⟩ := Rps.get (i := i) (d := d) b (by simpa using e)
    exact ⟨v, by simpa using h1, h2⟩
theorem Rps.append : ∀ {vs ws : List V} {ds es : List D}, Rps K mg H F vs ds → Rps K mg H F ws es → Rps K mg H F (vs ++ ws) (ds ++ es)
  | _, _, _, _, .nil, s => s
  | _, _, _, _, .cons a b, s => .cons a (Rps.append b s)
end
def TabAt (P : Addr) (h : Heap) : Prop := ∃ ps, h.get? P = some { cls := .none, data := .fields ps } ∧ TriplesOk ps.toList
def tabO (P : Addr) : HO := .ext (TabAt P)
def TabsIn (T : Addr → Prop) (H : Hp) : Prop := ∀ t, T t → H t = some (tabO t)
theorem TabsIn.same {T : Addr → Prop} {H H' : Hp} (h : TabsIn T H) (s : Same H H') : TabsIn T H' := fun t ht => s _ _ (h t ht)
theorem TabsIn.updD {T : Addr → Prop} {H : Hp} {p : Addr} {xs : List (Key × V)} {o : HO} (h : TabsIn T H) (e : H p = some (.dK xs)) : TabsIn T (upd H p o) := fun t ht => by
  rw [upd_ne]
  · exact h t ht
  · rintro rfl
    rw [h t ht] at e; cases e
theorem TabsIn.upd {T : Addr → Prop} {H : Hp} {p : Addr} {xs : List V} {o : HO} (h : TabsIn T H) (e : H p = some (.lst xs)) : TabsIn T (upd H p o) := fun t ht => by
  rw [upd_ne]
  · exact h t ht
  · rintro rfl
    rw [h t ht] at e; cases e
structure Px where
  X : Cx
  H0 : Hp
  F0 : Fz
  Hs : Hp
  Fs : Fz
  rz : Bool
  W : D → En → Prop
  G : Gm
  T : Addr → Prop
  gz : Bool
section
variable (P : Px)
abbrev Px.rp (H : Hp) (F : Fz) : V → D → Prop := Rp P.X.K P.X.mg H F
abbrev Px.rps (H : Hp) (F : Fz) : List V → List D → Prop := Rps P.X.K P.X.mg H F
def Px.slot (H : Hp) (F : Fz) : Sl → Option V → Prop
  | .no, _ => True
  | .val d, o => ∃ v, o = some v ∧ P.rp H F v d
  | .own l, o => ∃ p vs, o = some (.ref p) ∧ H p = some (.lst vs) ∧ ¬ F p ∧ P.H0 p = none ∧ P.rps H F vs l
  | .dic ks l, o => ∃ p vs, o = some (.ref p) ∧ H p = some (.dK (zK ks vs)) ∧ ¬ F p ∧ P.H0 p = none ∧ ks.length = vs.length ∧ P.rps H F vs l
structure Rl (H : Hp) (F : Fz) (σ : L2.St) (s : En) : Prop where
  g : Grow P.H0 P.F0 H F
  len : σ.length = s.length
  slot : ∀ (i : Nat) (x : Sl), s[i]? = some x → ∃ o, σ[i]? = some o ∧ P.slot H F x o
  apart : ∀ (i j : Nat) (p : Addr) (x y : Sl), s[i]? = some x → s[j]? = some y → x.mine = true → y.mine = true → σ[i]? = some (some (.ref p)) → σ[j]? = some (some (.ref p)) → i = j
  kp : Keep P.Hs P.Fs H F
  tb : TabsIn P.T H
def RQ (s : En) (H : Hp) (F : Fz) (r : R) (Q : VK) : Prop := match r with
  | .ok d => ∀ v H' F', Grow H F H' F' → P.rp H' F' v d → Q v H'
  | .own l => ∀ p vs H' F', Grow H F H' F' → H p = none → ¬ F' p → H' p = some (.lst vs) → P.rps H' F' vs l → Q (.ref p) H'
  | .exn d => P.W d s
  | .bad => False
def tD (t : En → R) : TE := fun σ H Q => ∃ F s, Rl P H F σ s ∧ RQ P s H F (t s) Q
end
section
variable {P : Px} {H H' : Hp} {F F' : Fz} {σ : L2.St} {s : En} {r : R} {Q Q' : VK}
theorem Rl.dom (h : Rl P H F σ s) : ∀ a, F a → ∃ o, H a = some o := h.g.dom
theorem Rl.self (h : Rl P H F σ s) : Grow H F H F := Grow.refl h.dom
theorem Rl.grow (h : Rl P H F σ s) (g : Grow H F H' F') : Rl P H' F' σ s := by
  refine ⟨h.g.trans g, h.len, fun i x e => ?_, h.apart, h.kp.trans g.keep, h.tb.same g.same⟩
  obtain ⟨o, e1, q⟩ := h.slot i x e
  refine ⟨o, e1, ?_⟩
  cases x with
  | no => trivial
  | val d => obtain ⟨v, e2, q⟩ := q; exact ⟨v, e2, q.grow g⟩
  | own l =>
    obtain ⟨p, vs, e2, e3, n, e4, q⟩ := q
    exact ⟨p, vs, e2, g.same _ _ e3, fun z => n (g.old _ _ e3 z), e4, q.grow g⟩
  | dic ks l =>
    obtain ⟨p, vs, e2, e3, n, e4, hl, q⟩ := q
    exact ⟨p, vs, e2, g.same _ _ e3, fun z => n (g.old _ _ e3 z), e4, hl, q.grow g⟩
theorem RQ.grow (g : Grow H F H' F') (h : RQ P s H F r Q) : RQ P s H' F' r Q := by
  cases r with
  | ok d => exact fun v H2 F2 g2 q => h v H2 F2 (g.trans g2) q
  | own l => exact fun p vs H2 F2 g2 n f e q => h p vs H2 F2 (g.trans g2) (g.same.free n) f e q
  | exn d => exact h
  | bad => exact h
theorem RQ.imp (h : RQ P s H F r Q) (k : ∀ v H', Q v H' → Q' v H') : RQ P s H F r Q' := by
  cases r with
  | ok d => exact fun v H2 F2 g2 q => k _ _ (h v H2 F2 g2 q)
  | own l => exact fun p vs H2 F2 g2 n f e q => k _ _ (h p vs H2 F2 g2 n f e q)
  | exn d => exact h
  | bad => exact h
theorem frz_new {p : Addr} {vs : List V} {l : List D} (g : Grow H F H' F') (n : H p = none) (e : H' p = some (.lst vs)) (q : P.rps H' F' vs l) :
    Grow H F H' (fun a => F' a ∨ a = p) ∧ P.rp H' (fun a => F' a ∨ a = p) (.ref p) (.lst l) := by
  refine ⟨⟨g.same, fun a h => .inl (g.sub a h), fun a o e1 h => ?_, fun a h => ?_⟩, .lst (.inl ⟨.inr rfl, .inl e⟩) (q.keep ⟨fun a o _ e => e, fun a h => .inl h⟩)⟩
  · rcases h with h | h
    · exact g.old a o e1 h
    · rw [h, n] at e1; cases e1
  · rcases h with h | h
    · exact g.dom a h
    · rw [h]; exact ⟨_, e⟩
theorem RQ.bnd {f : D → R} (h : RQ P s H F (bnd r f) Q) : RQ P s H F r fun v H' => ∃ F' d, Grow H F H' F' ∧ P.rp H' F' v d ∧ RQ P s H' F' (f d) Q := by
  cases r with
  | ok d => exact fun v H2 F2 g2 q => ⟨F2, d, g2, q, RQ.grow g2 h⟩
  | own l =>
    intro p vs H2 F2 g2 n f e q
    obtain ⟨g3, q3⟩ := frz_new g2 n e q
    exact ⟨_, .lst l, g3, q3, RQ.grow g3 h⟩
  | exn d => exact h
  | bad => exact h
theorem tD.bnd {t : En → R} {f : En → D → R} (h : tD P (fun s => bnd (t s) (f s)) σ H Q) :
    tD P t σ H fun v H' => ∃ F' s d, Rl P H' F' σ s ∧ P.rp H' F' v d ∧ RQ P s H' F' (f s d) Q := by
  obtain ⟨F, s, l, q⟩ := h
  exact ⟨F, s, l, (RQ.bnd q).imp fun v H' ⟨F', d, g, r, q⟩ => ⟨F', s, d, l.grow g, r, q⟩⟩
theorem tD.imp {t : En → R} (h : tD P t σ H Q) (k : ∀ v H', Q v H' → Q' v H') : tD P t σ H Q' := by
  obtain ⟨F, s, l, q⟩ := h
  exact ⟨F, s, l, q.imp k⟩
theorem RQ.ok0 {d : D} {v : V} (d0 : ∀ a, F a → ∃ o, H a = some o) (h : RQ P s H F (.ok d) Q) (r : P.rp H F v d) : Q v H := h v H F (Grow.refl d0) r
theorem PE.imp {X : Cx} {e : Expr} {t t' : TE} (h : PE X e t) (k : ∀ σ H Q, t' σ H Q → t σ H Q) : PE X e t' := fun pins s σ H Q I q => h pins s σ H Q I (k σ H Q q)
theorem PT.imp {X : Cx} {e : Expr} {t t' : TT} (h : PT X e t) (k : ∀ σ H Q, t' σ H Q → t σ H Q) : PT X e t' := fun pins s σ H Q I q => h pins s σ H Q I (k σ H Q q)
theorem PW.imp {X : Cx} {e : Expr} {t t' : TT} (h : PW X e t) (k : ∀ σ H Q, t' σ H Q → t σ H Q) : PW X e t' := fun wh pins s σ H Q I q => h wh pins s σ H Q I (k σ H Q q)
theorem PS.imp {X : Cx} {e : Stmt} {t t' : TS} (h : PS X e t) (k : ∀ D σ H, t' D σ H → t D σ H) : PS X e t' := fun pins s σ H D I q => h pins s σ H D I (k D σ H q)
theorem PSs.imp {X : Cx} {e : List Stmt} {t t' : TS} (h : PSs X e t) (k : ∀ D σ H, t' D σ H → t D σ H) : PSs X e t' := fun pins s σ H D I q => h pins s σ H D I (k D σ H q)
def rD (P : Px) (σ : L2.St) (g : D → D → R) (v u : V) (H : Hp) (Q : VK) : Prop := ∃ F s x y, Rl P H F σ s ∧ P.rp H F v x ∧ P.rp H F u y ∧ RQ P s H F (g x y) Q
theorem tD.two {ta tb : En → R} {g : D → D → R} (h : tD P (fun s => Nf.bnd (ta s) fun x => Nf.bnd (tb s) fun y => g x y) σ H Q) :
    tD P ta σ H fun v H1 => tD P tb σ H1 fun u H2 => rD P σ g v u H2 Q := by
  refine (tD.bnd (f := fun s x => Nf.bnd (tb s) fun y => g x y) h).imp fun v H1 ⟨F1, s1, x, l1, r1, q1⟩ => ?_
  refine ⟨F1, s1, l1, (RQ.bnd q1).imp fun u H2 ⟨F2, y, g2, r2, q2⟩ => ⟨F2, s1, x, y, l1.grow g2, r1.grow g2, r2, q2⟩⟩
end
end Nf
set_option linter.all false
set_option maxRecDepth 100000
set_option autoImplicit false
set_option maxHeartbeats 4000000
namespace Nf
open PySem L2 PySem.Spec PyProof.Rows
def Dm (H : Hp) (F : Fz) : Prop := ∀ a, F a → ∃ o, H a = some o
def rO (P : Px) (g : D → D → R) : R2 := fun v u H Q => ∃ F s x y, Dm H F ∧ P.rp H F v x ∧ P.rp H F u y ∧ RQ P s H F (g x y) Q
def rU1 (P : Px) (g : D → R) : V → Hp → VK → Prop := fun v H Q => ∃ F s x, Dm H F ∧ P.rp H F v x ∧ RQ P s H F (g x) Q
section
variable {P : Px} {H : Hp} {F : Fz} {Q : VK} {s : En}
theorem okI_q {i : Int} (d : Dm H F) (h : RQ P s H F (okI i) Q) : Q (.int i) H := RQ.ok0 d h (.int i)
theorem okB_q {b : Bool} (d : Dm H F) (h : RQ P s H F (okB b) Q) : Q (.bl b) H := RQ.ok0 d h (.bl b)
theorem op_fdivG {X : Cx} : OpR X (binaryOp .FloorDiv) (rI (fun _ j => divOk j = true) fun i j => .int (i / j)) := opI fun i j _ _ _ _ _ hc q => by
  have hc' : divOk j = true := hc
  unfold divOk at hc'
  obtain ⟨h1, h2⟩ := Bool.and_eq_true_iff.mp hc'
  have h1 := of_decide_eq_true h1
  have h2 := of_decide_eq_true h2
  exact floordiv_int (by omega) (by rw [Int.fdiv_eq_ediv_of_nonneg i (by omega)]; exact q) (.inl (PyProof.noPylong_of_log2 h2))
theorem mulOk_ok {i j : Int} (h : mulOk i j = true) : IntMulOk i j := by
  unfold mulOk at h
  rcases Bool.or_eq_true_iff.mp h with h | h
  case inr =>
    rcases Bool.or_eq_true_iff.mp h with h | h
    · exact .of_left (of_decide_eq_true h)
    · exact .of_right (of_decide_eq_true h)
  have h := of_decide_eq_true h
  unfold IntMulOk
  intro z
  have z := (Bool.and_eq_true_iff.mp z).2
  unfold Builtin.Int.intTooBig at z
  have z := of_decide_eq_true z
  have e : bitsLine = 134217728 := by decide
  omega
theorem op_mulG {X : Cx} : OpR X (binaryOp .Mult) (rI (fun i j => mulOk i j = true) fun i j => .int (i * j)) := opI fun _ _ _ _ _ _ _ hc q => mul_int q (mulOk_ok hc)
theorem op_shlG {X : Cx} : OpR X (binaryOp .LShift) (rI (fun i j => shlOk i j = true) fun i j => .int (i * 2 ^ j.toNat)) := opI fun i j _ _ _ _ _ hc q => by
  have hc' : shlOk i j = true := hc
  unfold shlOk at hc'
  obtain ⟨h1, h2⟩ := Bool.and_eq_true_iff.mp hc'
  exact lshift_int (of_decide_eq_true h1) (of_decide_eq_true h2) q
theorem op_powG {X : Cx} : OpR X (binaryOp .Pow) (rI (fun i j => powOk i j = true) fun i j => .int (i ^ j.toNat)) := opI fun i j _ _ _ _ _ hc q => by
  have hc' : powOk i j = true := hc
  unfold powOk at hc'
  obtain ⟨h1, h2⟩ := Bool.and_eq_true_iff.mp hc'
  exact pow_int (of_decide_eq_true h1) (of_decide_eq_true h2) q
theorem op_catS {X : Cx} : OpR X (binaryOp .Add) (fun x y H Q => ∃ l b xs zs, x = .ref l ∧ y = .ref b ∧ SqL X.K H l xs ∧ SqL X.K H b zs ∧ xs.length + zs.length ≤ sizeLine ∧ ∀ p, H p = none → Q (.ref p) (upd H p (.lst (xs ++ zs)))) := by
  intro pins s σ H x y v u Q I rx ry h
  obtain ⟨l, b, xs, zs, rfl, rfl, hH, hB, hz, q⟩ := h
  cases rx
  cases ry
  obtain ⟨its, r, pl, _⟩ := I.list hH
  obtain ⟨its2, r2, pl2, _⟩ := I.list hB
  have l1 := r.length
  have l2 := r2.length
  obtain ⟨⟨cls, dd, data, sl⟩, ho, hc, n, hd⟩ := pl.isList
  obtain ⟨⟨cls2, dd2, data2, sl2⟩, ho2, hc2, n2, hd2⟩ := pl2.isList
  simp only at hc hd hc2 hd2
  subst hc hd hc2 hd2
  have e : its.toArray ++ its2.toArray = (its ++ its2).toArray := by simp
  refine concat_meets ⟨_, ho, rfl⟩ ⟨_, ho2, rfl⟩ noFill_list_add seq_list_add PySem.F.slot_list_add PySem.F.entry_list_add (PySem.F.args_list_add_2 _ _) (list_addW l b its.toArray its2.toArray n n2 dd dd2 sl sl2 (by rw [List.size_toArray, List.size_toArray]; omega)) ⟨ho, ho2, ?_⟩
  rw [e]
  exact ⟨.ref _, _, I.lnew (t' := s.toks) (r.append r2) (by rw [List.length_append]; omega), rfl, q _ I.fresh⟩
theorem rep_flat {α : Type} (l : List α) : ∀ n, (List.replicate n l).flatten = repL l n
  | 0 => rfl
  | n + 1 => by rw [List.replicate_succ, List.flatten_cons, rep_flat l n]; rfl
theorem repL_len {α : Type} (l : List α) : ∀ n, (repL l n).length = n * l.length
  | 0 => by simp [repL]
  | n + 1 => by rw [show repL l (n + 1) = l ++ repL l n from rfl, List.length_append, repL_len l n, Nat.succ_mul, Nat.add_comm]
theorem rps_rep {K : PySem.W.Frag} {mg : Str → Option Value} {H : Hp} {F : Fz} {vs : List V} {ds : List D} (r : Rps K mg H F vs ds) : ∀ n, Rps K mg H F (repL vs n) (repL ds n)
  | 0 => .nil
  | n + 1 => r.append (rps_rep r n)
theorem rmulW (a : Int) (t : Tok) (l : Addr) (items : Array Value) (n : Nat) (dd : Option Addr) (sl : Array (Option Value)) :
    Meets (Builtin.«int.__rmul__» ⟨[.int a t, .ref l], []⟩) (fun _ R s => s.heap.get? l = some { cls := .type "list", dict := dd, data := .seq items n, slots := sl } ∧ R (.ok (.ret Value.notImplemented)) s) :=
  .of_wp fun prog w A R s h => by obtain ⟨hp, g, d, tk, os⟩ := s; obtain ⟨hl, h⟩ := h; wp_walk using wpAny_loadPart' hl; exact ⟨_, rfl, h⟩
theorem list_mulW (l : Addr) (items : Array Value) (n : Nat) (dd : Option Addr) (sl : Array (Option Value)) (x : Int) (u : Tok) (hc0 : ¬(!Builtin.List.listFitsIndex x) = true) (hc1 : ¬items.size * x.toNat > (2 ^ 63 - 1) / 8) (hc2 : ¬Builtin.List.listTooLong (items.size * x.toNat) = true) :
    Meets (Builtin.«list.__mul__» ⟨[.ref l, .int x u], []⟩) (fun _ R s => s.heap.get? l = some { cls := .type "list", dict := dd, data := .seq items n, slots := sl } ∧ R (.ok (.ret (Value.ref s.heap.objs.size))) { s with heap := s.heap.push { cls := Value.type "list", data := Data.seq (List.foldl (fun x1 x2 => x1 ++ x2) #[] (List.replicate (if items.isEmpty = true then 0 else x.toNat) items)) }, toks := s.toks }) :=
  .of_wp fun prog w A R s h => by
    obtain ⟨hp, g, d, tk, os⟩ := s; obtain ⟨hl, h⟩ := h
    have hsz := AutoListH.joined_fits hc2
    wp_walk using wpAny_loadPart' hl; refine wpAny_ite_false (decide_eq_false (Nat.not_lt.mpr hsz)) ?_; wp_walk using wpAny_loadPart' hl; exact ⟨_, rfl, h⟩
theorem op_repS {X : Cx} : OpR X (binaryOp .Mult) (fun x y H Q => ∃ l k xs, x = .ref l ∧ y = .int k ∧ SqL X.K H l xs ∧ -(2 ^ 63) ≤ k ∧ k < 2 ^ 63 ∧ xs.length * k.toNat ≤ sizeLine ∧
    ∀ p, H p = none → Q (.ref p) (upd H p (.lst (repL xs k.toNat)))) := by
  intro pins s σ H x y v u Q I rx ry h
  obtain ⟨l, k, xs, rfl, rfl, hH, h1, h2, hz, q⟩ := h
  cases rx
  obtain ⟨t, rfl⟩ := ry
  obtain ⟨its, r, pl, _⟩ := I.list hH
  have hl := r.length
  obtain ⟨⟨cls, dd, data, sl⟩, ho, hc, n, hd⟩ := pl.isList
  simp only at hc hd
  subst hc hd
  have hlen : its.toArray.size * k.toNat ≤ sizeLine := by rw [List.size_toArray, ← hl]; exact hz
  have hcap : ¬ its.toArray.size * k.toNat > (2 ^ 63 - 1) / 8 := by
    have : (sizeLine : Nat) ≤ (2 ^ 63 - 1) / 8 := by decide
    omega
  have hfit : ¬ (!Builtin.List.listFitsIndex k) = true := by
    rw [fitsIndex_both h1 h2]
    exact Bool.false_ne_true
  have hlong : ¬ Builtin.List.listTooLong (its.toArray.size * k.toNat) = true := by
    rw [notLongL hlen]
    exact Bool.false_ne_true
  have hnew : List.foldl (fun x1 x2 => x1 ++ x2) #[] (List.replicate (if its.toArray.isEmpty = true then 0 else k.toNat) its.toArray) = (repL its k.toNat).toArray := by
    have f0 : ∀ m : Nat, List.foldl (fun x1 x2 => x1 ++ x2) #[] (List.replicate m its.toArray) = (repL its m).toArray := fun m => by
      have := foldl_rep its m []
      rw [List.nil_append, rep_flat] at this
      exact this
    rw [f0]
    cases its with
    | nil =>
      have e0 : ∀ m, repL ([] : List Value) m = [] := fun m => List.length_eq_zero_iff.mp (by rw [repL_len]; simp)
      rw [e0, e0]
    | cons a r' => rw [if_neg (by simp)]
  refine wpAny_binaryOp_repeat_ref (T := "list") (U := "int") (by decide) ⟨_, ho, rfl⟩ (fun s' => typeIs_int s' k t) noFill_list_mul F.fills_int_mul F.slot_int_rmul repeat_list F.slot_int_index.lookup
    (call_meets F.slot_int_rmul (typeIs_int s k t) F.entry_int_rmul (F.args_int_rmul_2 _ _) (rmulW k t l its.toArray n dd sl)
      ⟨ho, rfl, ⟨_, ho, rfl⟩, call_meets F.slot_list_mul ⟨_, ho, rfl⟩ F.entry_list_mul (F.args_list_mul_2 _ _) (list_mulW l its.toArray n dd sl k t hfit hcap hlong) ⟨ho, ?_⟩⟩)
  rw [hnew]
  have rr : ∀ n, Vals (repL xs n) (repL its n) := fun n => by
    induction n with
    | zero => exact .nil
    | succ n ih => exact r.append ih
  exact ⟨.ref _, _, I.lnew (t' := s.toks) (rr k.toNat) (by rw [repL_len, Nat.mul_comm]; exact hz), rfl, q _ I.fresh⟩
theorem op_bin {X : Cx} (hX : X = P.X) (op : Operator) : OpR X (binaryOp op) (rO P (binop op)) := by
  subst hX
  intro pins st σ H x y v u Q I rx ry h
  obtain ⟨F, s, a, b, dm, ra, rb, q⟩ := h
  cases ra with
  | int i =>
    cases rb with
    | int j =>
      have q : RQ P s H F (binI op i j) Q := q
      cases op with
      | Add => exact op_add pins st σ H _ _ v u Q I rx ry ⟨i, j, rfl, rfl, okI_q dm q⟩
      | Sub => exact op_sub pins st σ H _ _ v u Q I rx ry ⟨i, j, rfl, rfl, okI_q dm q⟩
      | Mult =>
        have q : RQ P s H F (if mulOk i j then okI (i * j) else .bad) Q := q
        by_cases hc : mulOk i j = true
        · rw [if_pos hc] at q; exact op_mulG pins st σ H _ _ v u Q I rx ry ⟨i, j, rfl, rfl, hc, okI_q dm q⟩
        · rw [if_neg hc] at q; exact q.elim
      | FloorDiv =>
        have q : RQ P s H F (if divOk j then okI (i / j) else .bad) Q := q
        by_cases hc : divOk j = true
        · rw [if_pos hc] at q; exact op_fdivG pins st σ H _ _ v u Q I rx ry ⟨i, j, rfl, rfl, hc, okI_q dm q⟩
        · rw [if_neg hc] at q; exact q.elim
      | Mod =>
        have q : RQ P s H F (if 0 < j then okI (i % j) else .bad) Q := q
        by_cases hc : 0 < j
        · rw [if_pos hc] at q; exact op_mod pins st σ H _ _ v u Q I rx ry ⟨i, j, rfl, rfl, hc, okI_q dm q⟩
        · rw [if_neg hc] at q; exact q.elim
      | Pow =>
        have q : RQ P s H F (if powOk i j then okI (i ^ j.toNat) else .bad) Q := q
        by_cases hc : powOk i j = true
        · rw [if_pos hc] at q; exact op_powG pins st σ H _ _ v u Q I rx ry ⟨i, j, rfl, rfl, hc, okI_q dm q⟩
        · rw [if_neg hc] at q; exact q.elim
      | LShift =>
        have q : RQ P s H F (if shlOk i j then okI (i * 2 ^ j.toNat) else .bad) Q := q
        by_cases hc : shlOk i j = true
        · rw [if_pos hc] at q; exact op_shlG pins st σ H _ _ v u Q I rx ry ⟨i, j, rfl, rfl, hc, okI_q dm q⟩
        · rw [if_neg hc] at q; exact q.elim
      | RShift =>
        have q : RQ P s H F (if 0 ≤ j then okI (i / 2 ^ j.toNat) else .bad) Q := q
        by_cases hc : 0 ≤ j
        · rw [if_pos hc] at q; exact op_shr pins st σ H _ _ v u Q I rx ry ⟨i, j, rfl, rfl, hc, okI_q dm q⟩
        · rw [if_neg hc] at q; exact q.elim
      | BitAnd => exact op_and pins st σ H _ _ v u Q I rx ry ⟨i, j, rfl, rfl, okI_q dm q⟩
      | BitOr => exact op_or pins st σ H _ _ v u Q I rx ry ⟨i, j, rfl, rfl, okI_q dm q⟩
      | BitXor => exact op_xor pins st σ H _ _ v u Q I rx ry ⟨i, j, rfl, rfl, okI_q dm q⟩
      | _ => exact (show False from q).elim
    | _ => exact (show False from q).elim
  | str i =>
    cases rb with
    | str j =>
      cases op with
      | Add =>
        have q : RQ P s H F (if i.length + j.length ≤ sizeLine then .ok (.str (i ++ j)) else .bad) Q := q
        by_cases hc : i.length + j.length ≤ sizeLine
        · rw [if_pos hc] at q; exact op_add_str pins st σ H _ _ v u Q I rx ry ⟨i, j, rfl, rfl, hc, RQ.ok0 dm q (.str _)⟩
        · rw [if_neg hc] at q; exact q.elim
      | _ => exact (show False from q).elim
    | _ => exact (show False from q).elim
  | @lst a1 xs i hl1 hr1 =>
    cases rb with
    | @lst b1 ys j hl2 hr2 =>
      cases op with
      | Add =>
        have q : RQ P s H F (if i.length + j.length ≤ sizeLine then .own (i ++ j) else .bad) Q := q
        by_cases hc : i.length + j.length ≤ sizeLine
        · rw [if_pos hc] at q
          have q : ∀ p vs H' F', Grow H F H' F' → H p = none → ¬ F' p → H' p = some (.lst vs) → P.rps H' F' vs (i ++ j) → Q (.ref p) H' := q
          refine op_catS pins st σ H _ _ v u Q I rx ry ⟨a1, b1, xs, ys, rfl, rfl, hl1.sq, hl2.sq, by rw [hr1.length, hr2.length]; exact hc, fun p hp => ?_⟩
          have g : Grow H F (upd H p (.lst (xs ++ ys))) F ∧ ¬ F p := by
            refine ⟨⟨fun b u e => ?_, fun a h => h, fun a u e h => h, fun a h => ?_⟩, fun h => ?_⟩
            · rw [upd_ne (ne_of_none e hp)]; exact e
            · obtain ⟨u, e⟩ := dm a h
              exact ⟨u, by rw [upd_ne (ne_of_none e hp)]; exact e⟩
            · obtain ⟨u, e⟩ := dm p h
              rw [hp] at e; cases e
          exact q p _ _ F g.1 hp g.2 upd_same ((hr1.append hr2).grow g.1)
        · rw [if_neg hc] at q; exact q.elim
      | _ => exact (show False from q).elim
    | int j =>
      cases op with
      | Mult =>
        have q : RQ P s H F (if repOk i.length j then .own (repL i j.toNat) else .bad) Q := q
        by_cases hc : repOk i.length j = true
        · rw [if_pos hc] at q
          have q : ∀ p vs H' F', Grow H F H' F' → H p = none → ¬ F' p → H' p = some (.lst vs) → P.rps H' F' vs (repL i j.toNat) → Q (.ref p) H' := q
          unfold repOk at hc
          obtain ⟨c1, c2⟩ := Bool.and_eq_true_iff.mp hc
          obtain ⟨c2, c3⟩ := Bool.and_eq_true_iff.mp c2
          refine op_repS pins st σ H _ _ v u Q I rx ry ⟨a1, j, xs, rfl, rfl, hl1.sq, of_decide_eq_true c2, of_decide_eq_true c3, by rw [hr1.length]; exact of_decide_eq_true c1, fun p hp => ?_⟩
          have g : Grow H F (upd H p (.lst (repL xs j.toNat))) F ∧ ¬ F p := by
            refine ⟨⟨fun b u e => ?_, fun a h => h, fun a u e h => h, fun a h => ?_⟩, fun h => ?_⟩
            · rw [upd_ne (ne_of_none e hp)]; exact e
            · obtain ⟨u, e⟩ := dm a h
              exact ⟨u, by rw [upd_ne (ne_of_none e hp)]; exact e⟩
            · obtain ⟨u, e⟩ := dm p h
              rw [hp] at e; cases e
          exact q p _ _ F g.1 hp g.2 upd_same ((rps_rep hr1 _).grow g.1)
        · rw [if_neg hc] at q; exact q.elim
      | _ => exact (show False from q).elim
    | _ => exact (show False from q).elim
  | _ => exact (show False from q).elim
mutual
theorem Rp.dp {K : PySem.W.Frag} {mg : Str → Option Value} {H : Hp} {F : Fz} : ∀ {d : D} {v : V} {pd : PyData}, Rp K mg H F v d → toPy d = some pd → Dp K H v pd
  | .non, _, _, h, e => by cases h; cases e; exact .non
  | .bl b, _, _, h, e => by cases h; cases e; exact .bl b
  | .int i, _, _, h, e => by cases h; cases e; exact .int i
  | .str x, _, _, h, e => by cases h; cases e; exact .str x
  | .tup l, _, _, h, e => by
    cases h with
    | tup a b =>
      unfold toPy at e
      split at e
      · rename_i l' e'
        cases e
        exact .tup a.sq (Rps.dp b e')
      · cases e
  | .lst l, _, _, h, e => by
    cases h with
    | lst a b =>
      unfold toPy at e
      split at e
      · rename_i l' e'
        cases e
        exact .lst a.sq (Rps.dp b e')
      · cases e
  | .ins c, _, _, h, e => by cases e
  | .exc c l, _, _, h, e => by cases e
  | .dct ks l, _, _, h, e => by cases e
theorem Rps.dp {K : PySem.W.Frag} {mg : Str → Option Value} {H : Hp} {F : Fz} : ∀ {ds : List D} {vs : List V} {l : List PyData}, Rps K mg H F vs ds → toPys ds = some l → DpAll K H vs l
  | [], _, _, h, e => by cases h; cases e; exact .nil
  | d :: ds, _, _, h, e => by
    cases h with
    | cons a b =>
      unfold toPys at e
      split at e
      · rename_i x y e1 e2
        cases e
        exact .cons (Rp.dp a e1) (Rps.dp b e2)
      · cases e
end
theorem deq_some {x y : D} {b : Bool} (h : deq x y = some b) : ∃ p q, toPy x = some p ∧ toPy y = some q ∧ SeqAt.shaped p = true ∧ SeqAt.shaped q = true ∧ b = PyData.eqv p q := by
  unfold deq at h
  split at h
  · rename_i p q e1 e2
    split at h
    · rename_i hs
      have hs := Bool.and_eq_true_iff.mp hs
      exact ⟨p, q, e1, e2, hs.1, hs.2, (Option.some.inj h).symm⟩
    · cases h
  · cases h
theorem Rp.isNon {K : PySem.W.Frag} {mg : Str → Option Value} {H : Hp} {F : Fz} {v : V} {d : D} (h : Rp K mg H F v d) : decide (v = .non) = isNon d := by
  cases h <;> rfl
theorem Rp.flat {K : PySem.W.Frag} {mg : Str → Option Value} {H : Hp} {F : Fz} {v : V} {d : D} (h : Rp K mg H F v d) : flatV v = flatD d := by
  cases h <;> rfl
theorem Rp.eqv {K : PySem.W.Frag} {mg : Str → Option Value} {H : Hp} {F : Fz} {v u : V} {x y : D} (h : Rp K mg H F v x) (h' : Rp K mg H F u y) (fx : flatD x = true) (fy : flatD y = true) : eqV v u = eqD x y := by
  cases h <;> cases h' <;> first | rfl | exact absurd fx Bool.false_ne_true | exact absurd fy Bool.false_ne_true
theorem Rps.all {K : PySem.W.Frag} {mg : Str → Option Value} {H : Hp} {F : Fz} : ∀ {vs : List V} {l : List D}, Rps K mg H F vs l → vs.all flatV = l.all flatD
  | _, _, .nil => rfl
  | _, _, .cons a b => by rw [List.all_cons, List.all_cons, a.flat, Rps.all b]
theorem Rps.any {K : PySem.W.Frag} {mg : Str → Option Value} {H : Hp} {F : Fz} {u : V} {y : D} (hu : Rp K mg H F u y) (fy : flatD y = true) : ∀ {vs : List V} {l : List D}, Rps K mg H F vs l → l.all flatD = true → inV u vs = l.any fun x => eqD x y
  | _, _, .nil, _ => rfl
  | _, _, .cons a b, h => by
    rw [List.all_cons] at h
    obtain ⟨h1, h2⟩ := Bool.and_eq_true_iff.mp h
    have ih := Rps.any hu fy b h2
    unfold inV at ih ⊢
    rw [List.any_cons, List.any_cons, a.eqv hu h1 fy, ih]
theorem inD_some {x : D} {l : List D} {b : Bool} (h : inD x l = some b) : flatD x = true ∧ l.all flatD = true ∧ b = l.any fun y => eqD y x := by
  unfold inD at h
  split at h
  · rename_i hs
    have hs := Bool.and_eq_true_iff.mp hs
    exact ⟨hs.1, hs.2, (Option.some.inj h).symm⟩
  · cases h
theorem in_any {X : Cx} (hX : X = P.X) {neg : Bool} (ho : OpR X (compareOp (if neg then .NotIn else .In)) (rIn X.K neg)) {pins : List (Addr × Obj)} {st : Shared} {σ : L2.St} {x : V} {a : Addr} {xs : List V} {v u : Value} {d : D} {l : List D} {b : Bool}
    (I : Inv X pins σ H st) (rx : RelV x v) (ry : RelV (.ref a) u) (dm : Dm H F) (rd : P.rp H F x d) (sq : SqL X.K H a xs ∨ SqT X.K H a xs) (rl : P.rps H F xs l) (e : inD d l = some b) (q : RQ P s H F (okB (if neg then !b else b)) Q) :
    wpAny (model X.prog X.w) X.A (compareOp (if neg then .NotIn else .In) v u) (EP X pins σ Q) X.xe st := by
  subst hX
  obtain ⟨f1, f2, e⟩ := inD_some e
  refine ho pins st σ H x (.ref a) v u Q I rx ry ⟨a, xs, rfl, sq, by rw [rd.flat]; exact f1, by rw [rl.all]; exact f2, ?_⟩
  rw [Rps.any rd f1 rl f2, ← e]
  exact okB_q dm q
theorem op_isB {X : Cx} : OpR X (compareOp .Is) (fun x y H Q => ∃ i j, x = .bl i ∧ y = .bl j ∧ Q (.bl (i == j)) H) := by
  intro pins s σ H x y v u Q I rx ry h
  obtain ⟨i, j, rfl, rfl, q⟩ := h
  cases rx
  cases ry
  exact PyProof.Rows.is_bool (fin_bl I q rfl)
theorem op_notB {X : Cx} : OpR X (compareOp .IsNot) (fun x y H Q => ∃ i j, x = .bl i ∧ y = .bl j ∧ Q (.bl (i != j)) H) := by
  intro pins s σ H x y v u Q I rx ry h
  obtain ⟨i, j, rfl, rfl, q⟩ := h
  cases rx
  cases ry
  exact PyProof.Rows.isnot_bool (fin_bl I q rfl)
theorem op_cmp {X : Cx} (hX : X = P.X) (hu : X.A.units + 64 < cLine) (op : CmpOp) : OpR X (compareOp op) (rO P (cmpop op)) := by
  have hX' := hX
  subst hX
  intro pins st σ H x y v u Q I rx ry h
  obtain ⟨F, s, a, b, dm, ra, rb, q⟩ := h
  cases op with
  | Eq =>
    have q : RQ P s H F (match deq a b with | some b => okB b | none => .bad) Q := q
    cases e : deq a b with
    | none => rw [e] at q; exact (show False from q).elim
    | some k =>
      rw [e] at q
      obtain ⟨p1, p2, e1, e2, s1, s2, e3⟩ := deq_some e
      subst e3
      exact op_eqD hu pins st σ H x y v u Q I rx ry ⟨p1, p2, ra.dp e1, rb.dp e2, s1, s2, okB_q dm q⟩
  | NotEq =>
    have q : RQ P s H F (match deq a b with | some b => okB (!b) | none => .bad) Q := q
    cases e : deq a b with
    | none => rw [e] at q; exact (show False from q).elim
    | some k =>
      rw [e] at q
      obtain ⟨p1, p2, e1, e2, s1, s2, e3⟩ := deq_some e
      subst e3
      exact op_neD hu pins st σ H x y v u Q I rx ry ⟨p1, p2, ra.dp e1, rb.dp e2, s1, s2, okB_q dm q⟩
  | Is =>
    have q : RQ P s H F (if isNon b then okB (isNon a) else blbl (fun a b => a == b) a b) Q := q
    by_cases hb : isNon b = true
    · rw [if_pos hb] at q
      refine op_isN pins st σ H x y v u Q I rx ry ⟨of_decide_eq_true (by rw [rb.isNon]; exact hb), ?_⟩
      rw [ra.isNon]
      exact okB_q dm q
    · rw [if_neg hb] at q
      cases ra with
      | bl i => cases rb with
        | bl j => exact op_isB pins st σ H _ _ v u Q I rx ry ⟨i, j, rfl, rfl, okB_q dm q⟩
        | _ => exact (show False from q).elim
      | _ => exact (show False from q).elim
  | IsNot =>
    have q : RQ P s H F (if isNon b then okB (!isNon a) else blbl (fun a b => a != b) a b) Q := q
    by_cases hb : isNon b = true
    · rw [if_pos hb] at q
      refine op_notN pins st σ H x y v u Q I rx ry ⟨of_decide_eq_true (by rw [rb.isNon]; exact hb), ?_⟩
      rw [ra.isNon]
      exact okB_q dm q
    · rw [if_neg hb] at q
      cases ra with
      | bl i => cases rb with
        | bl j => exact op_notB pins st σ H _ _ v u Q I rx ry ⟨i, j, rfl, rfl, okB_q dm q⟩
        | _ => exact (show False from q).elim
      | _ => exact (show False from q).elim
  | In =>
    cases rb with
    | @lst p xs l hl hr =>
      have q : RQ P s H F (match inD a l with | some b => okB b | none => .bad) Q := q
      cases e : inD a l with
      | none => rw [e] at q; exact (show False from q).elim
      | some k => rw [e] at q; exact in_any hX' (neg := false) op_in_seq I rx ry dm ra (.inl hl.sq) hr e q
    | @tup p xs l hl hr =>
      have q : RQ P s H F (match inD a l with | some b => okB b | none => .bad) Q := q
      cases e : inD a l with
      | none => rw [e] at q; exact (show False from q).elim
      | some k => rw [e] at q; exact in_any hX' (neg := false) op_in_seq I rx ry dm ra (.inr hl.sq) hr e q
    | _ => exact (show False from q).elim
  | NotIn =>
    cases rb with
    | @lst p xs l hl hr =>
      have q : RQ P s H F (match inD a l with | some b => okB (!b) | none => .bad) Q := q
      cases e : inD a l with
      | none => rw [e] at q; exact (show False from q).elim
      | some k => rw [e] at q; exact in_any hX' (neg := true) op_notIn_seq I rx ry dm ra (.inl hl.sq) hr e q
    | @tup p xs l hl hr =>
      have q : RQ P s H F (match inD a l with | some b => okB (!b) | none => .bad) Q := q
      cases e : inD a l with
      | none => rw [e] at q; exact (show False from q).elim
      | some k => rw [e] at q; exact in_any hX' (neg := true) op_notIn_seq I rx ry dm ra (.inr hl.sq) hr e q
    | _ => exact (show False from q).elim
  | Lt =>
    cases ra with
    | int i =>
      cases rb with
      | int j => exact op_lt pins st σ H _ _ v u Q I rx ry ⟨i, j, rfl, rfl, okB_q dm q⟩
      | _ => exact (show False from q).elim
    | _ => exact (show False from q).elim
  | LtE =>
    cases ra with
    | int i =>
      cases rb with
      | int j => exact op_le pins st σ H _ _ v u Q I rx ry ⟨i, j, rfl, rfl, okB_q dm q⟩
      | _ => exact (show False from q).elim
    | _ => exact (show False from q).elim
  | Gt =>
    cases ra with
    | int i =>
      cases rb with
      | int j => exact op_gt pins st σ H _ _ v u Q I rx ry ⟨i, j, rfl, rfl, okB_q dm q⟩
      | _ => exact (show False from q).elim
    | _ => exact (show False from q).elim
  | GtE =>
    cases ra with
    | int i =>
      cases rb with
      | int j => exact op_ge pins st σ H _ _ v u Q I rx ry ⟨i, j, rfl, rfl, okB_q dm q⟩
      | _ => exact (show False from q).elim
    | _ => exact (show False from q).elim
end
end Nf
set_option linter.all false
set_option maxRecDepth 100000
set_option autoImplicit false
set_option maxHeartbeats 4000000
namespace Nf
open PySem L2 PySem.Spec PyProof.Rows
def gl (sc : Scope) (x : Str) : Bool := (sc.names.lookup x == some .globalImplicit) && !(x == ("__debug__" : Str))
def vis (N : List Str) (sc : Scope) (i : Nat) (x : Str) : Bool := (N[i]? == some x) && ((sc.names.lookup x == some .local || (sc.names.lookup x == some .cell || sc.names.lookup x == some .free)) && (!(x == ("__debug__" : Str)) && !(x == ("__classdict__" : Str))))
def noStar : Expr → Bool
  | .Starred _ _ => false
  | _ => true
def dspC : List (Str × Str) → List (Option Expr) → List Expr → Bool
  | [], [], [] => true
  | (k, v) :: l, some (.Constant (.str a) _ _) :: ks, (.Constant (.str b) _ _) :: vs => (a == k) && ((b == v) && dspC l ks vs)
  | _, _, _ => false
def noSlice : Expr → Bool
  | .Slice _ _ _ _ => false
  | _ => true
def mNames (sc : Scope) : List Str → List Expr → Bool
  | [], [] => true
  | c :: r, .Name d _ :: s => (c == d) && (gl sc d && mNames sc r s)
  | _, _ => false
def mCls (sc : Scope) (cs : List Str) (y : Expr) : Bool := match y with
  | .Name d _ => match cs with
    | [c] => (c == d) && gl sc d
    | _ => false
  | .Tuple es _ _ => mNames sc cs es && (decide (cs.length ≤ 1000) && !cs.isEmpty)
  | _ => false
def locn (N : List Str) (sc : Scope) (i : Nat) (x : Str) : Bool := (N[i]? == some x) && (sc.names.lookup x == some .local || sc.names.lookup x == some .cell)
def noSet : Expr → Bool
  | .Set _ _ _ => false
  | _ => true
def locs (N : List Str) (sc : Scope) : List Nat → List Expr → Bool
  | [], [] => true
  | i :: r, .Name x _ :: t => locn N sc i x && locs N sc r t
  | _, _ => false
def mTg (N : List Str) (sc : Scope) : Tg → Expr → Bool
  | .name i, .Name x _ => locn N sc i x
  | .tup l, .Tuple es _ _ => locs N sc l es
  | _, _ => false
def loco (N : List Str) (sc : Scope) (i : Nat) (x : Str) : Bool := (N[i]? == some x) && (sc.names.lookup x == some .local)
def locos (N : List Str) (sc : Scope) : List Nat → List Expr → Bool
  | [], [] => true
  | i :: r, .Name x _ :: t => loco N sc i x && locos N sc r t
  | _, _ => false
def mTo (N : List Str) (sc : Scope) : Tg → Expr → Bool
  | .name i, .Name x _ => loco N sc i x
  | .tup l, .Tuple es _ _ => locos N sc l es
  | _, _ => false
def ownOf (N : List Str) (t : Tg) : List (Str × Nat) := t.ix.map fun i => (N.getD i "", i)
def mOp (lo : E) (p : Option Expr) (k : Expr → Bool) : Bool := match p with
  | none => match lo with
    | .nil => true
    | _ => false
  | some y => k y
def okBs : Expr → Bool
  | .Name _ _ => true
  | .Call (.Name _ _) (_ :: _) _ _ => true
  | _ => false
def isNm : Expr → Bool
  | .Name _ _ => true
  | _ => false
def noLst : Expr → Bool
  | .List _ _ => false
  | _ => true
def mGn (g : Bool) (N : List Str) (sc : Scope) (t : Tg) (tg iter : Expr) (scope : Scope) (f : Str) : Bool := g && (gl sc f && (noLst iter && (scope.names.all (fun y => !(y.2 == .cell)) && (!scope.isCoroutine && ((scope.names.lookup (".0" : Str) == some .local) && (blkC N sc scope (ownOf N t) && mTo N scope t tg))))))
def isTpE : Expr → Bool
  | .Tuple _ _ _ => true
  | _ => false
mutual
def mE (gf : Bool) (G : Gm) (N : List Str) (sc : Scope) : E → Expr → Bool
  | .var i, x => match x with
    | .Name y _ => vis N sc i y
    | _ => false
  | .glob c, x => match x with
    | .Name y _ => (c == y) && (gl sc y && (G.con c).isSome)
    | _ => false
  | .cn, x => match x with
    | .Constant .none _ _ => true
    | _ => false
  | .cb b, x => match x with
    | .Constant (.bool c) _ _ => b == c
    | _ => false
  | .ci i, x => match x with
    | .Constant (.int j) _ _ => i == j
    | _ => false
  | .cs t, x => match x with
    | .Constant (.str u) _ _ => t == u
    | _ => false
  | .bin op a b, x => match x with
    | .BinOp l o r _ => decide (op = o) && (mE gf G N sc a l && mE gf G N sc b r)
    | _ => false
  | .neg a, x => match x with
    | .UnaryOp .USub l _ => mE gf G N sc a l
    | _ => false
  | .and a b, x => match x with
    | .BoolOp .And [l, r] _ => mE gf G N sc a l && mE gf G N sc b r
    | .BoolOp .And (l :: r :: r' :: t) p => mE gf G N sc a l && mE gf G N sc b (.BoolOp .And (r :: r' :: t) p)
    | _ => false
  | .or a b, x => match x with
    | .BoolOp .Or [l, r] _ => mE gf G N sc a l && mE gf G N sc b r
    | .BoolOp .Or (l :: r :: r' :: t) p => mE gf G N sc a l && mE gf G N sc b (.BoolOp .Or (r :: r' :: t) p)
    | _ => false
  | .not a, x => match x with
    | .UnaryOp .Not l _ => mE gf G N sc a l
    | _ => false
  | .cmp op a b, x => match x with
    | .Compare l [o] [r] _ => decide (op = o) && (!(behindInMarks op r) && (mE gf G N sc a l && mE gf G N sc b r))
    | _ => false
  | .chain o p a b c, x => match x with
    | .Compare l [o', p'] [r, t] _ => decide (o = o') && (decide (p = p') && (!(lastMarks [o', p'] [r, t]) && (mE gf G N sc a l && (mE gf G N sc b r && mE gf G N sc c t))))
    | _ => false
  | .ifx c a b, x => match x with
    | .IfExp t l r _ => mE gf G N sc c t && (mE gf G N sc a l && mE gf G N sc b r)
    | _ => false
  | .tup l, x => match x with
    | .Tuple es _ _ => mEs gf G N sc l es
    | _ => false
  | .lst l, x => match x with
    | .List es _ => mEs gf G N sc l es
    | _ => false
  | .idx a i, x => match x with
    | .Subscript l r _ => noSlice r && (mE gf G N sc a l && mE gf G N sc i r)
    | _ => false
  | .slc a lo hi, x => match x with
    | .Subscript l (.Slice p q none _) _ => mE gf G N sc a l && (mOp lo p (fun y => mE gf G N sc lo y) && mOp hi q (fun y => mE gf G N sc hi y))
    | _ => false
  | .nil, _ => false
  | .call f l, x => match x with
    | .Call (.Name g _) es [] _ => (f == g) && (gl sc g && ((G.fn f).isSome && mEs gf G N sc l es))
    | _ => false
  | .blt f l, x => match x with
    | .Call (.Name g _) (e :: es) [] _ => (f.name == g) && (gl sc g && mEs gf G N sc l (e :: es))
    | _ => false
  | .isi a cs, x => match x with
    | .Call (.Name g _) [l, r] [] _ => (g == ("isinstance" : Str)) && (gl sc g && (noStar l && (mE gf G N sc a l && mCls sc cs r)))
    | _ => false
  | .mth a m l, x => match x with
    | .Call (.Attribute o n ap) (y :: ys) [] cp => (m == n) && ((ap.endLine == cp.line) && (decide ((y :: ys).length < 30) && (okBs o && (mE gf G N sc a o && mEs gf G N sc l (y :: ys)))))
    | _ => false
  | .bitl a, x => match x with
    | .Call (.Attribute o m ap) [] [] cp => (m == ("bit_length" : Str)) && (isNm o && ((ap.endLine == cp.line) && mE gf G N sc a o))
    | _ => false
  | .att a f, _ => false
  | .new c, x => match x with
    | .Call (.Name g _) [] [] _ => (c == g) && (gl sc g && G.new c)
    | _ => false
  | .cpy a, x => match x with
    | .Call (.Name g _) [l] [] _ => (g == ("list" : Str)) && (gl sc g && (noStar l && mE gf G N sc a l))
    | _ => false
  | .lc t it ifs e, x => match x with
    | .ListComp elt [⟨tg, iter, cs, 0⟩] scope _ => mIt gf G N sc tg it iter && (blkC N sc scope (ownOf N t) && (mTo N (relS scope sc) t tg && (mC gf G N (relS scope sc) ifs cs && mE gf G N (relS scope sc) e elt)))
    | _ => false
  | .callk f l k e, x => match x with
    | .Call (.Name g _) (y :: ys) [⟨some n, z, _⟩] _ => (f == g) && ((k == n) && (gl sc g && ((G.fn f).isSome && (mEs gf G N sc l (y :: ys) && mE gf G N sc e z))))
    | _ => false
  | .anyg t it e, x => match x with
    | .Call (.Name f _) [.GeneratorExp elt [⟨tg, iter, [], 0⟩] scope _] [] _ => (f == ("any" : Str)) && (mGn gf N sc t tg iter scope f && (mIt gf G N sc tg it iter && mE false G N scope e elt))
    | _ => false
  | .sumg t it e, x => match x with
    | .Call (.Name f _) [.GeneratorExp elt [⟨tg, iter, [], 0⟩] scope _] [] _ => (f == ("sum" : Str)) && (mGn gf N sc t tg iter scope f && (mIt gf G N sc tg it iter && mE false G N scope e elt))
    | _ => false
  | .dnw, x => match x with
    | .Dict [] [] _ => true
    | _ => false
  | .dix i k, x => match x with
    | .Subscript (.Name y _) r _ => vis N sc i y && (noSlice r && mE gf G N sc k r)
    | _ => false
  | .vls a, x => match x with
    | .Call (.Name g _) [.Call (.Attribute o m ap) [] [] cp] [] _ => (g == ("list" : Str)) && (gl sc g && ((m == ("values" : Str)) && (isNm o && ((ap.endLine == cp.line) && mE gf G N sc a o))))
    | _ => false
  | .rvs a, x => match x with
    | .Subscript l (.Slice none none (some (.UnaryOp .USub (.Constant (.int 1) _ _) _)) _) _ => mE gf G N sc a l
    | _ => false
  | .dsel l e, x => match x with
    | .Subscript (.Dict ks vs _) i _ => noSlice i && (dspC l ks vs && (!l.isEmpty && (decide (l.length ≤ 15) && mE gf G N sc e i)))
    | _ => false
  | .sta a l, x => match x with
    | .Tuple (.Starred y _ :: ys) _ _ => mE gf G N sc a y && mEs gf G N sc l ys
    | _ => false
  | .cnt a b, x => match x with
    | .Call (.Attribute o m ap) [y] [] cp => (m == ("count" : Str)) && (isNm o && ((ap.endLine == cp.line) && (noStar y && (mE gf G N sc a o && mE gf G N sc b y))))
    | _ => false
def mC (gf : Bool) (G : Gm) (N : List Str) (sc : Scope) : Es → List Expr → Bool
  | .nil, x => match x with
    | [] => true
    | _ => false
  | .cons a l, x => match l, x with
    | .nil, [y] => mE gf G N sc a y
    | _, _ => false
def mIt (gf : Bool) (G : Gm) (N : List Str) (sc : Scope) (tg : Expr) : It → Expr → Bool
  | .seq a, x => noSet x && mE gf G N sc a x
  | .rng1 a, x => match x with
    | .Call (.Name f _) [x] [] _ => (f == ("range" : Str)) && (gl sc f && (noStar x && mE gf G N sc a x))
    | _ => false
  | .rng2 a b, x => match x with
    | .Call (.Name f _) [x, y] [] _ => (f == ("range" : Str)) && (gl sc f && (noStar x && (noStar y && (mE gf G N sc a x && mE gf G N sc b y))))
    | _ => false
  | .rng3 a b c, x => match x with
    | .Call (.Name f _) [x, y, z] [] _ => (f == ("range" : Str)) && (gl sc f && (noStar x && (noStar y && (noStar z && (mE gf G N sc a x && (mE gf G N sc b y && mE gf G N sc c z))))))
    | _ => false
  | .enm a, x => match x with
    | .Call (.Name f _) [x] [] _ => (f == ("enumerate" : Str)) && (gl sc f && (noStar x && (isTpE tg && mE gf G N sc a x)))
    | _ => false
  | .rev a, x => match x with
    | .Call (.Name f _) [x] [] _ => (f == ("reversed" : Str)) && (gl sc f && (noStar x && mE gf G N sc a x))
    | _ => false
def mEs (gf : Bool) (G : Gm) (N : List Str) (sc : Scope) : Es → List Expr → Bool
  | .nil, x => match x with
    | [] => true
    | _ => false
  | .cons a l, x => match x with
    | e :: es => noStar e && (mE gf G N sc a e && mEs gf G N sc l es)
    | _ => false
end
theorem a2 {a b : Bool} (h : (a && b) = true) : a = true ∧ b = true := Bool.and_eq_true_iff.mp h
theorem gl_ok {sc : Scope} {x : Str} (h : gl sc x = true) : sc.names.lookup x = some .globalImplicit ∧ (x == ("__debug__" : Str)) = false := by
  obtain ⟨h1, h2⟩ := a2 h
  exact ⟨beq_iff_eq.mp h1, by simpa using h2⟩
theorem vis_ok {N : List Str} {sc : Scope} {i : Nat} {x : Str} (h : vis N sc i x = true) : N[i]? = some x ∧ Vis sc x ∧ (x == ("__debug__" : Str)) = false ∧ (x == ("__classdict__" : Str)) = false := by
  obtain ⟨h1, h2⟩ := a2 h
  obtain ⟨h2, h3⟩ := a2 h2
  obtain ⟨h3, h4⟩ := a2 h3
  refine ⟨beq_iff_eq.mp h1, ?_, by simpa using h3, by simpa using h4⟩
  rcases Bool.or_eq_true_iff.mp h2 with z | z
  · exact .inl (beq_iff_eq.mp z)
  · rcases Bool.or_eq_true_iff.mp z with z | z
    · exact .inr (.inl (beq_iff_eq.mp z))
    · exact .inr (.inr (beq_iff_eq.mp z))
theorem star_ok {e : Expr} (h : noStar e = true) (es : List Expr) (env : Env) : starEach (e :: es) env = (false, eval e env) :: starEach es env := by
  cases e <;> first | rfl | exact absurd h Bool.false_ne_true
theorem slice_ok {e : Expr} (h : noSlice e = true) : PlainIx e := by
  intro o i
  cases e <;> first | rfl | exact absurd h Bool.false_ne_true
theorem mEs_star {gf : Bool} {G : Gm} {N : List Str} {sc : Scope} {env : Env} {pos : Pos} : ∀ {l : Es} {es : List Expr}, mEs gf G N sc l es = true → (backTo pos (starEach es env)).any (·.1) = false
  | .nil, [], _ => rfl
  | .nil, _ :: _, h => absurd h Bool.false_ne_true
  | .cons _ _, [], h => absurd h Bool.false_ne_true
  | .cons a l, e :: es, h => by
    obtain ⟨h1, h2⟩ := a2 h
    obtain ⟨_, h3⟩ := a2 h2
    rw [star_ok h1]
    show (false || (backTo pos (starEach es env)).any (·.1)) = false
    rw [mEs_star h3]
    rfl
def ClV (mg : Str → Option Value) (c : Str) (cv : Value) : Prop := (mg c = none ∧ bootBuiltins c = some cv ∧ (c ≠ "__name__") ∧ ∃ T, cv = .type T) ∨ (mg c = some cv ∧ ∃ C, cv = .ref C)
def tyNames : List Str := ["NoneType", "bool", "int", "str", "tuple", "list"]
def TyV (mg : Str → Option Value) (t : Str) (tv : Value) : Prop := (t = "NoneType" ∧ tv = .type "NoneType") ∨ (t = "bool" ∧ tv = .type "bool") ∨ (t = "int" ∧ tv = .type "int") ∨ (t = "str" ∧ tv = .type "str") ∨ (t = "tuple" ∧ tv = .type "tuple") ∨ (t = "list" ∧ tv = .type "list") ∨
  (¬ t ∈ tyNames ∧ mg t = some tv ∧ ∃ C, tv = .ref C)
def FnC (P : Px) (a : Addr) (fe : Fe) : Prop := ∀ (pins : List (Addr × Obj)) (st : Shared) (σ : L2.St) (H : Hp) (F : Fz) (s : En) (vs : List V) (us : List Value) (ds : List D) (Q : VK), Inv P.X pins σ H st → Rl P H F σ s → Vals vs us → P.rps H F vs ds →
  RQ P s H F (useFn (some fe) ds) Q → wpAny (model P.X.prog P.X.w) P.X.A (call (.ref a) us) (EP P.X pins σ Q) P.X.xe st
def XRp (mg : Str → Option Value) (d : D) (C : Addr) : Prop := ∃ c l, d = .exc c l ∧ mg c = some (.ref C)
def spM (K : PySem.W.Frag) (mg : Str → Option Value) (T : Addr → Prop) (np : Nat) (phi : List D → R) : Sp := fun vs H Q E => ∃ F ds, TabsIn T H ∧ Dm H F ∧ Rps K mg H F vs ds ∧ ds.length = np ∧ match phi ds with
  | .ok d => ∀ v H' F', Grow H F H' F' → Rp K mg H' F' v d → Q v H'
  | .own l => ∀ p vs H' F', Grow H F H' F' → H p = none → ¬ F' p → H' p = some (.lst vs) → Rps K mg H' F' vs l → Q (.ref p) H'
  | .exn d => ∀ a C H' F', Grow H F H' F' → XRp mg d C → E (.ref C) (some a) H'
  | .bad => False
structure DfOk (K : PySem.W.Frag) (mg : Str → Option Value) (fd : FuncData) (ps : List Str) (dv : List D) : Prop where
  all : ∀ n, n ≤ dv.length → ∃ (dsV : List V) (dsU : List Value), Vals dsV dsU ∧ (∀ H F, Rps K mg H F dsV (dv.drop (dv.length - n))) ∧ Binds K fd ps dsU
def KwOk (K : PySem.W.Frag) (fd : FuncData) (ps : List Str) (k : Str) : Prop := ∀ (s : Shared) (us : List Value) (u : Value), K.In s.heap → us.length + 1 = ps.length → BindsTo s fd ⟨us, [(k, u)]⟩ (ps.zip (us ++ [u]))
def KwAll (K : PySem.W.Frag) (kw : Str → Nat) (np : Nat) (fd : FuncData) (ps : List Str) : Prop := ∀ k, kw k ≠ 0 → kw k = ps.length ∧ np = ps.length ∧ KwOk K fd ps k
structure NewOk (K : PySem.W.Frag) (C : Addr) : Prop where
  makes : PySem.W.makesIn K C = true
  init : PySem.W.findIn K (.ref C) "__init__" = some (some (.builtin "object.__init__"))
  kp : PySem.W.keepIn K (.ref C) = true
structure XAt (Pr : Program) (w : World) (outer : List Env) (H : Hp) (s : Shared) (H' : Hp) (a C : Addr) (s' : Shared) : Prop where
  os : s'.os = s.os
  bare : GG s s'
  un : Un (frs outer) [] H H' s.heap s'.heap
  hok : HOk Pr w H' s'.heap
  fly : ∃ B a0, Heap.FlyingW B outer a (.ref C) a0 s'.heap ∧ ∀ b, b ∉ frs outer → (s.heap.get? b ≠ none ∨ H' b ≠ none) → B.get? b ≠ none
  new : s.heap.get? a = none
  free : H' a = none
def CXm (Pr : Program) (w : World) : CXT := fun outer H s E e s' => ∃ a C H', e = .ref a ∧ XAt Pr w outer H s H' a C s' ∧ E (.ref C) (some a) H'
def XE (mg : Str → Option Value) (H : Hp) (F : Fz) (d : D) : XK := fun cls od H' => ∃ a C F', cls = .ref C ∧ od = some a ∧ Grow H F H' F' ∧ XRp mg d C
def XPass (P : Px) : Prop := ∀ (pins : List (Addr × Obj)) (σ : L2.St) (H : Hp) (F : Fz) (s : En) (st : Shared) (e : Value) (s' : Shared) (d : D), Inv P.X pins σ H st → Rl P H F σ s → P.W d s → CXm P.X.prog P.X.w P.X.stack H st (XE P.X.mg H F d) e s' → P.X.xe e s'
structure Wok (K : PySem.W.Frag) (mg : Str → Option Value) (G : Gm) : Prop where
  con : ∀ x d, G.con x = some d → ∃ v u, mg x = some u ∧ RelV v u ∧ ∀ H F, Rp K mg H F v d
  blt : ∀ f : Bf, mg f.name = none
  isi0 : mg "isinstance" = none
  lst0 : mg "list" = none
  range : mg "range" = none
  enm : mg "enumerate" = none
  any0 : mg "any" = none
  sum0 : mg "sum" = none
  rev0 : mg "reversed" = none
  isi : ∀ t c b, G.isi t c = some b → ∃ tv cv, TyV mg t tv ∧ ClV mg c cv ∧ PySem.W.kitOne K tv cv = some b
  tyF : ∀ t ∈ tyNames, mg t = none
  new : ∀ c, G.new c = true → ∃ C, mg c = some (.ref C) ∧ NewOk K C
  exc : ∀ c, G.exc c = true → ∃ C, mg c = some (.ref C) ∧ PySem.W.excIn K C [.type "ValueError", .type "Exception", .type "BaseException", .type "object"] "ValueError.__new__" = true
  exm : ∀ t c, G.isi t c = some true → ¬ t ∈ tyNames → ∀ tv cv, mg t = some tv → ClV mg c cv → PySem.W.exmOne K tv cv = some true
  kit : ∀ (X : Cx) (pins : List (Addr × Obj)) (st : Shared) (σ : L2.St) (H : Hp) (F : Fz) (v : V) (u : Value) (d : D) (tv : Value), X.K = K → Inv X pins σ H st → Rp K mg H F v d → RelV v u → ¬ tyN d ∈ tyNames → mg (tyN d) = some tv → (∃ c b, G.isi (tyN d) c = some b) →
    ∃ Hh, PySem.W.KitX K u tv Hh ∧ Hh st.heap ∧ u ≠ .builtin "__main__.__loader__#opaque"
structure CodeK (K : PySem.W.Frag) (c P : Addr) : Prop where
  at' : ∃ o vs file tf flags tg inF text tt, K.lookup c = some o ∧ o.cls = .type "code" ∧ o.data = .fields vs ∧ vs[11]? = some (.ref P) ∧ vs.getD 11 .none = .ref P ∧ vs.getD 18 .none = .str file tf ∧ vs.getD 7 .none = .int flags tg ∧ vs.getD 9 .none = .bool inF ∧ vs.getD 10 .none = .int text tt
  ne : c ≠ P
structure BiB (base : Heap) (mg : Str → Option Value) (bm : Addr) : Prop where
  mg' : mg "__builtins__" = some (.ref bm)
  ne : bm ≠ builtinsNs
  at' : ∃ o, base.get? bm = some o ∧ o.cls = .type "module" ∧ o.dict = some builtinsNs ∧ o.data = .plain
structure POk (P : Px) : Prop where
  nd : P.X.N.Nodup
  calm : P.X.calm = true
  hu : P.X.A.units + 64 + (if P.gz then 8 else 0) < cLine
  wd : Wok P.X.K P.X.mg P.G
  fn : ∀ f fe, P.G.fn f = some fe → ∃ a k fd ps, P.X.mg f = some (.ref a) ∧ PySem.W.keepIn P.X.K (.ref a) = true ∧ FnOk P.X.prog P.X.w P.X.K P.X.mg P.X.base (CXm P.X.prog P.X.w) k a fd ps (spM P.X.K P.X.mg P.T fe.np fe.phi) ∧ Room (k + (if P.gz then 1 else 0)) P.X.A ∧ DfOk P.X.K P.X.mg fd ps fe.dv ∧ KwAll P.X.K (P.G.kw f) fe.np fd ps
  mth : ∀ c m fe, P.G.mth c m = some fe → ∃ C f k fd ps, P.X.mg c = some (.ref C) ∧ Cls P.X.K C ∧ Meth P.X.K C m f ∧ FnOk P.X.prog P.X.w P.X.K P.X.mg P.X.base (CXm P.X.prog P.X.w) k f fd ps (spM P.X.K P.X.mg P.T fe.np fe.phi) ∧ Room (k + (if P.gz then 1 else 0)) P.X.A ∧ DfOk P.X.K P.X.mg fd ps fe.dv
  ex : XPass P
  gen : P.gz = true → ∃ c t, P.X.env.code = .ref c ∧ CodeK P.X.K c t ∧ P.T t
  bi : P.gz = true → ∃ bm, BiB P.X.base P.X.mg bm
  dp : P.gz = true → P.X.A.depth < recursionLimit
theorem POk.hu' {P : Px} (ok : POk P) : P.X.A.units + 64 < cLine := Nat.lt_of_le_of_lt (Nat.le_add_right _ _) ok.hu
theorem room_le {k n : Nat} {A : Around} (r : Room (k + n) A) : Room k A := r.mono (Nat.le_add_right _ _)
end Nf
set_option linter.all false
set_option maxRecDepth 100000
set_option autoImplicit false
set_option maxHeartbeats 4000000
namespace Nf
open PySem L2 PySem.Spec PyProof.Rows
section
variable {P : Px}
def LQ (P : Px) (s : En) (H : Hp) (F : Fz) (r : RL) (Q : List V → Hp → Prop) : Prop := match r with
  | .ok ds => ∀ vs H' F', Grow H F H' F' → P.rps H' F' vs ds → Q vs H'
  | .exn d => P.W d s
  | .bad => False
def tDs (P : Px) (t : En → RL) : TA := fun σ H Q => ∃ F s, Rl P H F σ s ∧ LQ P s H F (t s) Q
theorem LQ.grow {s : En} {H H' : Hp} {F F' : Fz} {r : RL} {Q : List V → Hp → Prop} (g : Grow H F H' F') (h : LQ P s H F r Q) : LQ P s H' F' r Q := by
  cases r with
  | ok d => exact fun v H2 F2 g2 q => h v H2 F2 (g.trans g2) q
  | exn d => exact h
  | bad => exact h
theorem LQ.imp {s : En} {H : Hp} {F : Fz} {r : RL} {Q Q' : List V → Hp → Prop} (h : LQ P s H F r Q) (k : ∀ v H', Q v H' → Q' v H') : LQ P s H F r Q' := by
  cases r with
  | ok d => exact fun v H2 F2 g2 q => k _ _ (h v H2 F2 g2 q)
  | exn d => exact h
  | bad => exact h
theorem tDs.imp {t : En → RL} {σ : L2.St} {H : Hp} {Q Q' : List V → Hp → Prop} (h : tDs P t σ H Q) (k : ∀ v H', Q v H' → Q' v H') : tDs P t σ H Q' := by
  obtain ⟨F, s, l, q⟩ := h
  exact ⟨F, s, l, q.imp k⟩
theorem RQ.bndL {s : En} {H : Hp} {F : Fz} {r : RL} {f : List D → R} {Q : VK} (h : RQ P s H F (bndL r f) Q) : LQ P s H F r fun vs H' => ∃ F' ds, Grow H F H' F' ∧ P.rps H' F' vs ds ∧ RQ P s H' F' (f ds) Q := by
  cases r with
  | ok d => exact fun v H2 F2 g2 q => ⟨F2, d, g2, q, RQ.grow g2 h⟩
  | exn d => exact h
  | bad => exact h
theorem tD.bndL {t : En → RL} {f : En → List D → R} {σ : L2.St} {H : Hp} {Q : VK} (h : tD P (fun s => Nf.bndL (t s) (f s)) σ H Q) :
    tDs P t σ H fun vs H' => ∃ F' s ds, Rl P H' F' σ s ∧ P.rps H' F' vs ds ∧ RQ P s H' F' (f s ds) Q := by
  obtain ⟨F, s, l, q⟩ := h
  exact ⟨F, s, l, (RQ.bndL q).imp fun v H' ⟨F', d, g, r, q⟩ => ⟨F', s, d, l.grow g, r, q⟩⟩
theorem LQ.bndI {s : En} {H : Hp} {F : Fz} {r : R} {f : D → RL} {Q : List V → Hp → Prop} (h : LQ P s H F (bndI r f) Q) : RQ P s H F r fun v H' => ∃ F' d, Grow H F H' F' ∧ P.rp H' F' v d ∧ LQ P s H' F' (f d) Q := by
  cases r with
  | ok d => exact fun v H2 F2 g2 q => ⟨F2, d, g2, q, LQ.grow g2 h⟩
  | own l =>
    intro p vs H2 F2 g2 n f e q
    obtain ⟨g3, q3⟩ := frz_new g2 n e q
    exact ⟨_, .lst l, g3, q3, LQ.grow g3 h⟩
  | exn d => exact h
  | bad => exact h
theorem grow_new {H : Hp} {F : Fz} {p : Addr} {o : HO} (d : Dm H F) (n : H p = none) : Grow H F (upd H p o) (fun a => F a ∨ a = p) := by
  refine ⟨fun b u e => ?_, fun a h => .inl h, fun a u e h => ?_, fun a h => ?_⟩
  · rw [upd_ne (ne_of_none e n)]; exact e
  · rcases h with h | h
    · exact h
    · rw [h, n] at e; cases e
  · rcases h with h | h
    · obtain ⟨u, e⟩ := d a h
      exact ⟨u, by rw [upd_ne (ne_of_none e n)]; exact e⟩
    · rw [h]; exact ⟨o, upd_same⟩
theorem grow_own {H : Hp} {F : Fz} {p : Addr} {o : HO} (d : Dm H F) (n : H p = none) : Grow H F (upd H p o) F ∧ ¬ F p := by
  refine ⟨⟨fun b u e => ?_, fun a h => h, fun a u e h => h, fun a h => ?_⟩, fun h => ?_⟩
  · rw [upd_ne (ne_of_none e n)]; exact e
  · obtain ⟨u, e⟩ := d a h
    exact ⟨u, by rw [upd_ne (ne_of_none e n)]; exact e⟩
  · obtain ⟨u, e⟩ := d p h
    rw [n] at e; cases e
theorem PA.imp {X : Cx} {es : List Expr} {t t' : TA} (h : PA X es t) (k : ∀ σ H Q, t' σ H Q → t σ H Q) : PA X es t' := fun pos pins s σ H Q I q => h pos pins s σ H Q I (k σ H Q q)
theorem zK_val {K : PySem.W.Frag} {mg : Str → Option Value} {H : Hp} {F : Fz} : ∀ {ks : List Str} {vs : List V} {ds : List D} {k : Str} {d : D}, Rps K mg H F vs ds → dgL ks ds k = some d → ∃ v, valV (zK ks vs) (.inr k) = some v ∧ Rp K mg H F v d
  | [], _, _, _, _, _, e => by cases e
  | q :: ks, _, _, _, _, .nil, e => by cases e
  | q :: ks, v :: vs, x :: ds, k, d, .cons a b, e => by
    have e : (if q = k then some x else dgL ks ds k) = some d := e
    by_cases hq : q = k
    · rw [if_pos hq] at e
      cases e
      exact ⟨v, valV_pos (by rw [hq]), a⟩
    · rw [if_neg hq] at e
      obtain ⟨w, e1, r⟩ := zK_val b e
      refine ⟨w, ?_, r⟩
      show valV ((.inr q, v) :: zK ks vs) (.inr k) = some w
      rw [valV_neg (fun z => hq (by injection z))]
      exact e1
theorem ix_dct {X : Cx} (hu : X.A.units + 1 < cLine) : IxR X (fun x y H Q => ∃ a v, x = .ref a ∧ DGet H a y (some v) ∧ Q v H) := by
  intro value slice pins s σ H x y v u Q I rx ry h hs
  obtain ⟨a, w, rfl, g, q⟩ := h
  cases rx
  refine tail_any (ops := [.ref a, u]) (dict_typeIs I g) PySem.F.slot_dict_getitem.lookup (d_getItem hu I g ry fun w' s' I' rw' => ⟨w, H, I', rw', q⟩) hs
theorem ix_D {X : Cx} (hX : X = P.X) (hu : X.A.units + 1 < cLine) : IxR X (rO P idxop) := by
  subst hX
  intro value slice pins st σ H x y v u Q I rx ry h hs
  obtain ⟨F, s, a, b, dm, ra, rb, q⟩ := h
  cases rb with
  | int i =>
    cases ra with
    | @tup p xs l hl hr =>
      have q : RQ P s H F (match atI l i with | some d => .ok d | none => .bad) Q := q
      cases e : atI l i with
      | none => rw [e] at q; exact (show False from q).elim
      | some d =>
        rw [e] at q
        obtain ⟨w, e1, r1⟩ : ∃ w, atI xs i = some w ∧ P.rp H F w d := by
          obtain ⟨j, h1, h2, h3, h4, h5⟩ := atI_get e
          obtain ⟨w, e1, r1⟩ := hr.get h2
          refine ⟨w, ?_, r1⟩
          have hlen := hr.length
          unfold atI at e ⊢
          rw [hlen]
          cases z : ixN l.length i with
          | none => rw [z] at e; cases e
          | some j' =>
            have := (ixN_seq z).1
            rw [h1] at this
            cases this
            exact e1
        exact ix_tup value slice pins st σ H _ _ v u Q I rx ry ⟨p, xs, i, w, rfl, rfl, hl.sq, e1, RQ.ok0 dm q r1⟩ hs
    | @lst p xs l hl hr =>
      have q : RQ P s H F (match atI l i with | some d => .ok d | none => .bad) Q := q
      cases e : atI l i with
      | none => rw [e] at q; exact (show False from q).elim
      | some d =>
        rw [e] at q
        obtain ⟨w, e1, r1⟩ : ∃ w, atI xs i = some w ∧ P.rp H F w d := by
          obtain ⟨j, h1, h2, h3, h4, h5⟩ := atI_get e
          obtain ⟨w, e1, r1⟩ := hr.get h2
          refine ⟨w, ?_, r1⟩
          have hlen := hr.length
          unfold atI at e ⊢
          rw [hlen]
          cases z : ixN l.length i with
          | none => rw [z] at e; cases e
          | some j' =>
            have := (ixN_seq z).1
            rw [h1] at this
            cases this
            exact e1
        exact ix_list value slice pins st σ H _ _ v u Q I rx ry ⟨p, xs, i, w, rfl, rfl, hl.sq, e1, RQ.ok0 dm q r1⟩ hs
    | str z =>
      have q : RQ P s H F (if z.length ≤ sizeLine then match atI z.cps.toList i with | some c => .ok (.str ⟨#[c]⟩) | none => .bad else .bad) Q := q
      by_cases hz : z.length ≤ sizeLine
      · rw [if_pos hz] at q
        cases e : atI z.cps.toList i with
        | none => rw [e] at q; exact (show False from q).elim
        | some c =>
          rw [e] at q
          exact ix_str value slice pins st σ H _ _ v u Q I rx ry ⟨z, i, c, rfl, rfl, hz, e, RQ.ok0 dm q (.str _)⟩ hs
      · rw [if_neg hz] at q; exact (show False from q).elim
    | _ => exact (show False from q).elim
  | str k =>
    cases ra with
    | @dct p ks xs l hf he hl hr =>
      have q : RQ P s H F (match dgL ks l k with | some d => .ok d | none => .bad) Q := q
      cases e : dgL ks l k with
      | none => rw [e] at q; exact (show False from q).elim
      | some d =>
        rw [e] at q
        obtain ⟨w, e1, r1⟩ := zK_val hr e
        refine ix_dct hu value slice pins st σ H _ _ v u Q I rx ry ⟨p, w, rfl, ?_, RQ.ok0 dm q r1⟩ hs
        rw [← e1]
        exact DGet.k (k := .inr k) he
    | _ => exact (show False from q).elim
  | _ => exact (show False from q).elim
theorem un_D {X : Cx} (hX : X = P.X) : UnR X (unaryOp .USub) (rU1 P negop) := by
  subst hX
  intro pins st σ H x v Q I rx h
  obtain ⟨F, s, a, dm, ra, q⟩ := h
  cases ra with
  | int i => exact un_neg pins st σ H _ v Q I rx ⟨i, rfl, okI_q dm q⟩
  | _ => exact (show False from q).elim
theorem Rp.truth {X : Cx} {H : Hp} {F : Fz} {v : V} {d : D} {b : Bool} (r : Rp X.K X.mg H F v d) (e : Nf.truth d = some b) : TruV X.K v H b := by
  cases r with
  | non => cases e; rfl
  | bl c => cases e; rfl
  | int i => cases e; rfl
  | str x =>
    have e : (if x.length ≤ sizeLine then some ((x.length : Int) != 0) else none) = some b := e
    by_cases h : x.length ≤ sizeLine
    · rw [if_pos h] at e; cases e; exact ⟨h, rfl⟩
    · rw [if_neg h] at e; cases e
  | @tup a xs l hl hr =>
    cases e
    refine .inr (.inl ⟨xs, hl.sq, ?_⟩)
    cases hr <;> rfl
  | @lst a xs l hl hr =>
    cases e
    refine .inl ⟨xs, hl.sq, ?_⟩
    cases hr <;> rfl
  | _ => cases e
def rB (P : Px) (f : Bf) : List V → Hp → VK → Prop := fun vs H Q => ∃ F s ds, Dm H F ∧ P.rps H F vs ds ∧ RQ P s H F (bltop f ds) Q
theorem Rp.len {X : Cx} {H : Hp} {F : Fz} {v : V} {d : D} {n : Int} (r : Rp X.K X.mg H F v d) (e : lenD d = some n) : ∃ k : Nat, LenV X.K v H k ∧ n = (k : Int) := by
  cases r with
  | str x =>
    have e : (if x.length ≤ sizeLine then some (x.length : Int) else none) = some n := e
    by_cases h : x.length ≤ sizeLine
    · rw [if_pos h] at e; cases e; exact ⟨x.length, ⟨h, rfl⟩, rfl⟩
    · rw [if_neg h] at e; cases e
  | @tup a xs l hl hr => cases e; exact ⟨xs.length, .inr ⟨xs, hl.sq, rfl⟩, by rw [hr.length]⟩
  | @lst a xs l hl hr => cases e; exact ⟨xs.length, .inl ⟨xs, hl.sq, rfl⟩, by rw [hr.length]⟩
  | _ => cases e
theorem Rps.one {K : PySem.W.Frag} {mg : Str → Option Value} {H : Hp} {F : Fz} {vs : List V} {d : D} (r : Rps K mg H F vs [d]) : ∃ v, vs = [v] ∧ Rp K mg H F v d := by
  cases r with
  | cons a b => cases b; exact ⟨_, rfl, a⟩
theorem Rps.two {K : PySem.W.Frag} {mg : Str → Option Value} {H : Hp} {F : Fz} {vs : List V} {d e : D} (r : Rps K mg H F vs [d, e]) : ∃ v w, vs = [v, w] ∧ Rp K mg H F v d ∧ Rp K mg H F w e := by
  cases r with
  | cons a b =>
    obtain ⟨w, rfl, c⟩ := Rps.one b
    exact ⟨_, _, rfl, a, c⟩
theorem call_len' {X : Cx} (hX : X = P.X) : CallR X (.builtin "len") (rB P .len) := by
  subst hX
  intro pins st σ H xs us Q I r h
  obtain ⟨F, s, ds, dm, rs, q⟩ := h
  match ds, rs, q with
  | [], _, q => exact (show False from q).elim
  | _ :: _ :: _, _, q => exact (show False from q).elim
  | [d], rs, q =>
    obtain ⟨v, rfl, rv⟩ := rs.one
    have q : RQ P s H F (match lenD d with | some n => okI n | none => .bad) Q := q
    cases e : lenD d with
    | none => rw [e] at q; exact (show False from q).elim
    | some n =>
      rw [e] at q
      obtain ⟨k, hk, e2⟩ := rv.len e
      subst e2
      exact call_len pins st σ H _ us Q I r ⟨v, k, rfl, hk, okI_q dm q⟩
theorem args_min3 (a b c : Value) : argsOk "min" ⟨[a, b, c], []⟩ := by unfold argsOk; kernel_rfl
theorem min3_tree {prog : Program} {w : World} {A : Around} {E : Value → Shared → Prop} {s : Shared} {a b c : Value} {Q : Value → Shared → Prop}
    (h : wpAny (model prog w) A.in1 (pyIter (.ref s.heap.objs.size)) (fun it s₂ => ∃ I fp wr n P St bt, it = .ref I ∧ Walks prog w A.in1 I fp wr n P St ∧ St 0 s₂.heap ∧ (∀ b ∈ fp, b < s₂.heap.objs.size) ∧ 0 < n ∧ CmpOf prog w A.in1 .Lt P bt ∧
      ∀ v h' tk, P (argBest bt (n - 1)) v → (∀ b o, b ∉ wr → s₂.heap.get? b = some o → h'.get? b = some o) → Q v { s₂ with heap := h', toks := tk }) E
      { s with heap := s.heap.push { cls := .type "tuple", data := .seq #[a, b, c] } }) :
    wpAny (model prog w) A (call (.builtin "min") [a, b, c]) Q E s := by
  have hname : (toString "min" ++ toString ".loop" : String) = "min.loop" := by decide
  refine call_function_tree F.kind_min F.plain_min F.entry_min (args_min3 _ _ _) ?_
  show wpAny _ A.in1 (Builtin.Builtins.bindParams "min" ["key", "default"] 0 ⟨[], []⟩ >>= _) _ _ s
  refine wpAny_bind (wpAny_of_eq (show Builtin.Builtins.bindParams "min" ["key", "default"] 0 ⟨[], []⟩ = pure [none, none] from rfl) ?_)
  show wpAny _ A.in1 (newTuple [a, b, c] >>= _) _ _ s
  refine wpAny_bind (wpAny_newObj_type ?_)
  refine wpAny_bind (wpAny_mono h (fun it s₂ h₂ => ?_) fun _ _ e => e)
  obtain ⟨I, fp, wr, n, P, St, bt, rfl, W, hst, hfp, hn, hcmp, hQ⟩ := h₂
  refine wpAny_bind (wpAny_newObj_type ?_)
  have hSf : s₂.heap.objs.size ∉ fp := fun hm => Nat.lt_irrefl _ (hfp _ hm)
  rw [hname]
  refine wpAny_pure ⟨plainId_quiet F.plain_min_loop _, codeAny_min_loop_first W bt hcmp s₂.heap.objs.size hSf hn (W.frame _ _ _ hst fun b _ o e => Heap.get?_push_of_some _ e) (Heap.get?_push_size _ rfl) fun v h' tk hP hk => ?_⟩
  exact hQ v h' tk hP fun b o hbw e => hk b o hbw (Nat.ne_of_lt (Heap.lt_size e)) (Heap.get?_push_of_some _ e)
theorem min3_ints {prog : Program} {w : World} {A : Around} {E : Value → Shared → Prop} {s : Shared} {a b c : Int} {t u r : Tok} {Q : Value → Shared → Prop} (hh : A.handled = none)
    (h : ∀ h' tk z, (∀ c o, s.heap.get? c = some o → h'.get? c = some o) → Q (.int (if c < (if b < a then b else a) then c else (if b < a then b else a)) z) { s with heap := h', toks := tk }) :
    wpAny (model prog w) A (call (.builtin "min") [.int a t, .int b u, .int c r]) Q E s := by
  have hT : (s.heap.push { cls := .type "tuple", data := .seq #[.int a t, .int b u, .int c r] }).IsTuple s.heap.objs.size (intItems #[(a, t), (b, u), (c, r)]) := ⟨_, Heap.get?_push_size _ rfl, rfl, 0, by simp [intItems]⟩
  refine min3_tree (wpAny_pyIter_tuple hT ?_)
  have hsz : (s.heap.push { cls := .type "tuple", data := .seq #[.int a t, .int b u, .int c r] }).objs.size = s.heap.objs.size + 1 := Heap.size_push ..
  refine ⟨_, [_, s.heap.objs.size], [_], _, _, _, _, rfl, Walks.tuple (A := A.in1) hh _ s.heap.objs.size (by rw [hsz]; exact Nat.ne_of_lt (Nat.lt_succ_self _)) (intItems #[(a, t), (b, u), (c, r)]),
    ⟨⟨_, Heap.get?_push_size _ rfl, rfl, rfl⟩, hT.push _⟩, fun c hc => ?_, by simp [intItems], CmpOf.ints_lt (numAt #[(a, t), (b, u), (c, r)]) (fun _ _ => intItems_at), fun v h' tk hP hk => ?_⟩
  · show c < ((s.heap.push _).push _).objs.size
    rw [Heap.size_push, hsz]
    rcases List.mem_cons.mp hc with rfl | hc
    · rw [hsz]; exact Nat.lt_succ_self _
    · rcases List.mem_cons.mp hc with rfl | hc
      · exact Nat.lt_succ_of_lt (Nat.lt_succ_self _)
      · cases hc
  · have hold : ∀ c o, s.heap.get? c = some o → h'.get? c = some o := fun c o e => by
      refine hk c o (fun hm => ?_) (Heap.get?_push_of_some _ (Heap.get?_push_of_some _ e))
      rcases List.mem_cons.mp hm with e1 | hm
      · have := Heap.lt_size e; rw [e1, hsz] at this; exact Nat.lt_irrefl _ (Nat.lt_of_succ_lt this)
      · cases hm
    have hP' : (intItems #[(a, t), (b, u), (c, r)])[argBest (fun i j => decide (numAt #[(a, t), (b, u), (c, r)] i < numAt #[(a, t), (b, u), (c, r)] j)) 2]? = some v := by
      have hsz2 : (intItems #[(a, t), (b, u), (c, r)]).size - 1 = 2 := by simp [intItems]
      rw [← hsz2]; exact hP
    have hv : ∃ z, v = Value.int (if c < (if b < a then b else a) then c else (if b < a then b else a)) z := by
      by_cases h1 : b < a
      · by_cases h2 : c < b
        · have e : argBest (fun i j => decide (numAt #[(a, t), (b, u), (c, r)] i < numAt #[(a, t), (b, u), (c, r)] j)) 2 = 2 := by simp [argBest, numAt, h1, h2]
          rw [e] at hP'
          exact ⟨r, by simpa [intItems, h1, h2] using hP'.symm⟩
        · have e : argBest (fun i j => decide (numAt #[(a, t), (b, u), (c, r)] i < numAt #[(a, t), (b, u), (c, r)] j)) 2 = 1 := by simp [argBest, numAt, h1, h2]
          rw [e] at hP'
          exact ⟨u, by simpa [intItems, h1, h2] using hP'.symm⟩
      · by_cases h2 : c < a
        · have e : argBest (fun i j => decide (numAt #[(a, t), (b, u), (c, r)] i < numAt #[(a, t), (b, u), (c, r)] j)) 2 = 2 := by simp [argBest, numAt, h1, h2]
          rw [e] at hP'
          exact ⟨r, by simpa [intItems, h1, h2] using hP'.symm⟩
        · have e : argBest (fun i j => decide (numAt #[(a, t), (b, u), (c, r)] i < numAt #[(a, t), (b, u), (c, r)] j)) 2 = 0 := by simp [argBest, numAt, h1, h2]
          rw [e] at hP'
          exact ⟨t, by simpa [intItems, h1, h2] using hP'.symm⟩
    obtain ⟨z, rfl⟩ := hv
    exact h h' tk z hold
theorem call_min3 {X : Cx} (hc : X.calm = true) : CallR X (.builtin "min") (fun xs H Q => ∃ i j k, xs = [.int i, .int j, .int k] ∧ Q (.int (if k < (if j < i then j else i) then k else (if j < i then j else i))) H) := by
  intro pins s σ H xs us Q I r h
  obtain ⟨i, j, k, rfl, q⟩ := h
  cases r with
  | cons r1 r =>
    cases r with
    | cons r2 r =>
      cases r with
      | cons r3 r =>
        cases r
        obtain ⟨t, rfl⟩ := r1
        obtain ⟨t', rfl⟩ := r2
        obtain ⟨t'', rfl⟩ := r3
        exact min3_ints (I.ok.hd hc) fun h' tk z kk => ⟨.int (if k < (if j < i then j else i) then k else (if j < i then j else i)), H, I.kept kk, ⟨z, rfl⟩, q⟩
theorem call_min' {X : Cx} (hX : X = P.X) (hc : X.calm = true) : CallR X (.builtin "min") (rB P .min) := by
  subst hX
  intro pins st σ H xs us Q I r h
  obtain ⟨F, s, ds, dm, rs, q⟩ := h
  match ds, rs, q with
  | [], _, q => exact (show False from q).elim
  | [_], _, q => cases ‹D› <;> exact (show False from q).elim
  | x :: y :: z :: _ :: _, _, q => cases x <;> first | exact (show False from q).elim | (cases y <;> first | exact (show False from q).elim | (cases z <;> exact (show False from q).elim))
  | [x, y, z], rs, q =>
    cases rs with
    | cons rv rs =>
      cases rs with
      | cons rw' rs =>
        cases rs with
        | cons rx rs =>
          cases rs
          cases rv with
          | int i =>
            cases rw' with
            | int j =>
              cases rx with
              | int k => exact call_min3 hc pins st σ H _ us Q I r ⟨i, j, k, rfl, okI_q dm q⟩
              | _ => exact (show False from q).elim
            | _ => exact (show False from q).elim
          | _ => exact (show False from q).elim
  | [x, y], rs, q =>
    obtain ⟨v, w, rfl, rv, rw'⟩ := rs.two
    cases rv with
    | int i =>
      cases rw' with
      | int j => exact call_min2 hc pins st σ H _ us Q I r ⟨i, j, rfl, okI_q dm q⟩
      | _ => exact (show False from q).elim
    | _ => exact (show False from q).elim
theorem call_max' {X : Cx} (hX : X = P.X) (hc : X.calm = true) : CallR X (.builtin "max") (rB P .max) := by
  subst hX
  intro pins st σ H xs us Q I r h
  obtain ⟨F, s, ds, dm, rs, q⟩ := h
  match ds, rs, q with
  | [], _, q => exact (show False from q).elim
  | [_], _, q => cases ‹D› <;> exact (show False from q).elim
  | x :: y :: _ :: _, _, q => cases x <;> first | exact (show False from q).elim | (cases y <;> exact (show False from q).elim)
  | [x, y], rs, q =>
    obtain ⟨v, w, rfl, rv, rw'⟩ := rs.two
    cases rv with
    | int i =>
      cases rw' with
      | int j => exact call_max2 hc pins st σ H _ us Q I r ⟨i, j, rfl, okI_q dm q⟩
      | _ => exact (show False from q).elim
    | _ => exact (show False from q).elim
theorem call_abs' {X : Cx} (hX : X = P.X) : CallR X (.builtin "abs") (rB P .abs) := by
  subst hX
  intro pins st σ H xs us Q I r h
  obtain ⟨F, s, ds, dm, rs, q⟩ := h
  match ds, rs, q with
  | [], _, q => exact (show False from q).elim
  | x :: _ :: _, _, q => cases x <;> exact (show False from q).elim
  | [d], rs, q =>
    obtain ⟨v, rfl, rv⟩ := rs.one
    cases rv with
    | int i => exact call_abs pins st σ H _ us Q I r ⟨i, rfl, okI_q dm q⟩
    | _ => exact (show False from q).elim
theorem call_int' {X : Cx} (hX : X = P.X) : CallR X (.type "int") (rB P .int) := by
  subst hX
  intro pins st σ H xs us Q I r h
  obtain ⟨F, s, ds, dm, rs, q⟩ := h
  match ds, rs, q with
  | [], _, q => exact (show False from q).elim
  | x :: _ :: _, _, q => cases x <;> exact (show False from q).elim
  | [d], rs, q =>
    obtain ⟨v, rfl, rv⟩ := rs.one
    cases rv with
    | int i => exact call_int1 pins st σ H _ us Q I r (.inl ⟨i, rfl, okI_q dm q⟩)
    | bl b => exact call_int1 pins st σ H _ us Q I r (.inr ⟨b, rfl, okI_q dm q⟩)
    | _ => exact (show False from q).elim
theorem call_divmodG {X : Cx} : CallR X (.builtin "divmod") (fun xs H Q => ∃ i j, xs = [.int i, .int j] ∧ divOk j = true ∧ ∀ p, H p = none → Q (.ref p) (upd H p (.tup [.int (i / j), .int (i % j)]))) := by
  intro pins s σ H xs us Q I r h
  obtain ⟨i, j, rfl, hc', q⟩ := h
  obtain ⟨u, w', rfl, ⟨t, rfl⟩, ⟨t', rfl⟩⟩ := vals2 r
  unfold divOk at hc'
  obtain ⟨h1, h2⟩ := Bool.and_eq_true_iff.mp hc'
  have h1 := of_decide_eq_true h1
  have h2 := of_decide_eq_true h2
  refine divmod_int (by omega) ?_ (.inl (PyProof.noPylong_of_log2 h2))
  rw [Int.fdiv_eq_ediv_of_nonneg i (by omega), Int.fmod_eq_emod_of_nonneg i (by omega)]
  have hn : H s.heap.objs.size = none := I.hok.fresh (Nat.le_refl _)
  refine ⟨.ref s.heap.objs.size, _, ?_, rfl, q _ hn⟩
  refine I.laid (fun b o e => Heap.get?_push_of_some _ e) (Nat.le_refl _) ⟨by simp only [List.length_cons, List.length_nil]; rw [sizeLine_eq]; decide, [.int (i / j) s.toks, .int (i % j) (s.toks + 1)], .cons ⟨_, rfl⟩ (.cons ⟨_, rfl⟩ .nil), ?_⟩
  exact ⟨_, Heap.get?_push_size s.heap rfl, rfl, 0, rfl⟩
theorem call_divmod' {X : Cx} (hX : X = P.X) : CallR X (.builtin "divmod") (rB P .divmod) := by
  subst hX
  intro pins st σ H xs us Q I r h
  obtain ⟨F, s, ds, dm, rs, q⟩ := h
  match ds, rs, q with
  | [], _, q => exact (show False from q).elim
  | [_], _, q => cases ‹D› <;> exact (show False from q).elim
  | x :: y :: _ :: _, _, q => cases x <;> first | exact (show False from q).elim | (cases y <;> exact (show False from q).elim)
  | [x, y], rs, q =>
    obtain ⟨v, w, rfl, rv, rw'⟩ := rs.two
    cases rv with
    | int i =>
      cases rw' with
      | int j =>
        have q : RQ P s H F (if divOk j then .ok (.tup [.int (i / j), .int (i % j)]) else .bad) Q := q
        by_cases hj : divOk j = true
        · rw [if_pos hj] at q
          refine call_divmodG pins st σ H _ us Q I r ⟨i, j, rfl, hj, fun p hn => ?_⟩
          exact q _ _ _ (grow_new dm hn) (.tup (.inl ⟨.inr rfl, .inl upd_same⟩) (.cons (.int _) (.cons (.int _) .nil)))
        · rw [if_neg hj] at q; exact (show False from q).elim
      | _ => exact (show False from q).elim
    | _ => exact (show False from q).elim
end
end Nf
set_option linter.all false
set_option maxRecDepth 100000
set_option autoImplicit false
set_option maxHeartbeats 4000000
namespace Nf
open PySem L2 PySem.Spec PyProof.Rows
section
variable {P : Px}
theorem kit_of (ok : POk P) {pins : List (Addr × Obj)} {st : Shared} {σ : L2.St} {H : Hp} {F : Fz} {v : V} {u : Value} {d : D} {tv : Value} (I : Inv P.X pins σ H st) (r : P.rp H F v d) (ru : RelV v u) (t : TyV P.X.mg (tyN d) tv) (hg : ∃ c b, P.G.isi (tyN d) c = some b) :
    ∃ Hh, PySem.W.KitX P.X.K u tv Hh ∧ Hh st.heap ∧ u ≠ .builtin "__main__.__loader__#opaque" := by
  have own : ¬ tyN d ∈ tyNames → ∃ Hh, PySem.W.KitX P.X.K u tv Hh ∧ Hh st.heap ∧ u ≠ .builtin "__main__.__loader__#opaque" := fun hn => by
    rcases t with z | z | z | z | z | z | ⟨_, z, _⟩
    · exact absurd (by rw [z.1]; decide +kernel) hn
    · exact absurd (by rw [z.1]; decide +kernel) hn
    · exact absurd (by rw [z.1]; decide +kernel) hn
    · exact absurd (by rw [z.1]; decide +kernel) hn
    · exact absurd (by rw [z.1]; decide +kernel) hn
    · exact absurd (by rw [z.1]; decide +kernel) hn
    · exact ok.wd.kit P.X pins st σ H F v u d tv rfl I r ru hn z hg
  have base : ∀ (T : String), tyN d = Str.ofString T → Str.ofString T ∈ tyNames → (T = "NoneType" ∨ T = "bool" ∨ T = "int" ∨ T = "str" ∨ T = "tuple" ∨ T = "list") → tv = .type T := fun T e hm hT => by
    rcases t with z | z | z | z | z | z | ⟨z, _⟩
    · rcases hT with q | q | q | q | q | q <;> (subst q; rw [e] at z) <;> first | exact z.2 | exact absurd z.1 (by decide +kernel)
    · rcases hT with q | q | q | q | q | q <;> (subst q; rw [e] at z) <;> first | exact z.2 | exact absurd z.1 (by decide +kernel)
    · rcases hT with q | q | q | q | q | q <;> (subst q; rw [e] at z) <;> first | exact z.2 | exact absurd z.1 (by decide +kernel)
    · rcases hT with q | q | q | q | q | q <;> (subst q; rw [e] at z) <;> first | exact z.2 | exact absurd z.1 (by decide +kernel)
    · rcases hT with q | q | q | q | q | q <;> (subst q; rw [e] at z) <;> first | exact z.2 | exact absurd z.1 (by decide +kernel)
    · rcases hT with q | q | q | q | q | q <;> (subst q; rw [e] at z) <;> first | exact z.2 | exact absurd z.1 (by decide +kernel)
    · exact absurd (by rw [e]; exact hm) z
  cases r with
  | non =>
    cases ru
    rw [base "NoneType" rfl (by decide +kernel) (.inl rfl)]
    exact ⟨_, PySem.W.kitx_none, True.intro, fun z => nomatch z⟩
  | bl b =>
    cases ru
    rw [base "bool" rfl (by decide +kernel) (by simp)]
    exact ⟨_, PySem.W.kitx_bool, True.intro, fun z => nomatch z⟩
  | int i =>
    obtain ⟨tk, rfl⟩ := ru
    rw [base "int" rfl (by decide +kernel) (by simp)]
    exact ⟨_, PySem.W.kitx_int, True.intro, fun z => nomatch z⟩
  | str x =>
    obtain ⟨tk, rfl⟩ := ru
    rw [base "str" rfl (by decide +kernel) (by simp)]
    exact ⟨_, PySem.W.kitx_str, True.intro, fun z => nomatch z⟩
  | @tup a xs l hl hr =>
    cases ru
    rw [base "tuple" rfl (by decide +kernel) (by simp)]
    obtain ⟨its, _, ⟨o, h1, h2, _⟩, _⟩ := I.tuple hl.sq
    exact ⟨_, PySem.W.kitx_tuple, ⟨o, h1, h2⟩, fun z => nomatch z⟩
  | @lst a xs l hl hr =>
    cases ru
    rw [base "list" rfl (by decide +kernel) (by simp)]
    obtain ⟨its, _, ⟨o, n, h1, h2, _⟩, _⟩ := I.list hl.sq
    exact ⟨_, PySem.W.kitx_list, ⟨o, h1, h2⟩, fun z => nomatch z⟩
  | @ins a C dx c f m h =>
    refine own fun z => ?_
    have : P.X.mg c = none := ok.wd.tyF c z
    rw [m] at this; cases this
  | @exc a C c ds f m h =>
    refine own fun z => ?_
    have : P.X.mg c = none := ok.wd.tyF c z
    rw [m] at this; cases this
  | dct _ _ _ _ => exact own (by show ¬ ("dict" : Str) ∈ tyNames; decide +kernel)
theorem TyV.inj {t : Str} {a b : Value} (h : TyV P.X.mg t a) (h' : TyV P.X.mg t b) : a = b := by
  have key : ∀ {c : Value}, TyV P.X.mg t c → (t ∈ tyNames ∧ c = .type (if t = "NoneType" then "NoneType" else if t = "bool" then "bool" else if t = "int" then "int" else if t = "str" then "str" else if t = "tuple" then "tuple" else "list")) ∨ (¬ t ∈ tyNames ∧ P.X.mg t = some c) := fun {c} h => by
    rcases h with ⟨rfl, rfl⟩ | ⟨rfl, rfl⟩ | ⟨rfl, rfl⟩ | ⟨rfl, rfl⟩ | ⟨rfl, rfl⟩ | ⟨rfl, rfl⟩ | ⟨z, y, _⟩
    · exact .inl ⟨by decide +kernel, by decide +kernel⟩
    · exact .inl ⟨by decide +kernel, by decide +kernel⟩
    · exact .inl ⟨by decide +kernel, by decide +kernel⟩
    · exact .inl ⟨by decide +kernel, by decide +kernel⟩
    · exact .inl ⟨by decide +kernel, by decide +kernel⟩
    · exact .inl ⟨by decide +kernel, by decide +kernel⟩
    · exact .inr ⟨z, y⟩
  rcases key h with ⟨a1, a2⟩ | ⟨a1, a2⟩ <;> rcases key h' with ⟨b1, b2⟩ | ⟨b1, b2⟩
  · rw [a2, b2]
  · exact absurd a1 b1
  · exact absurd b1 a1
  · rw [a2] at b2; exact Option.some.inj b2
theorem ClV.inj {c : Str} {a b : Value} (h : ClV P.X.mg c a) (h' : ClV P.X.mg c b) : a = b := by
  rcases h with ⟨h1, h2, _⟩ | ⟨h1, _⟩ <;> rcases h' with ⟨h3, h4, _⟩ | ⟨h3, _⟩
  · rw [h2] at h4; exact Option.some.inj h4
  · rw [h1] at h3; cases h3
  · rw [h1] at h3; cases h3
  · rw [h1] at h3; exact Option.some.inj h3
def tCl (P : Px) (c : Str) : TE := fun _ H Q => ∃ cv v, ClV P.X.mg c cv ∧ RelV v cv ∧ Q v H
theorem pe_cl {c : Str} {pos : Pos} (hg : gl P.X.env.scope c = true) : PE P.X (.Name c pos) (tCl P c) := by
  obtain ⟨g1, g2⟩ := gl_ok hg
  intro pins s σ H Q I h
  obtain ⟨cv, v, hc, r, q⟩ := h
  rcases hc with ⟨h1, h2, h3, _⟩ | ⟨h1, _⟩
  · exact ld_blt I g1 h1 h2 ⟨v, H, I, r, q⟩ h3 g2
  · exact ld_glob I g1 h1 ⟨v, H, I, r, q⟩ g2
theorem ClV.rel {c : Str} {cv : Value} (h : ClV P.X.mg c cv) : ∃ v, RelV v cv := by
  rcases h with ⟨_, _, _, T, rfl⟩ | ⟨_, C, rfl⟩
  · exact ⟨.ty T, rfl⟩
  · exact ⟨.ref C, rfl⟩
def tCls (P : Px) : List Str → TA
  | [] => tNil
  | c :: r => tCons (tCl P c) (tCls P r)
theorem pa_cls : ∀ {cs : List Str} {es : List Expr}, mNames P.X.env.scope cs es = true → PA P.X es (tCls P cs)
  | [], [], _ => pa_nil
  | [], _ :: _, h => absurd h Bool.false_ne_true
  | c :: r, [], h => absurd h Bool.false_ne_true
  | c :: r, e :: es, h => by
    cases e with
    | Name d pos =>
      obtain ⟨h1, h2⟩ := a2 h
      obtain ⟨h2, h3⟩ := a2 h2
      have e : c = d := beq_iff_eq.mp h1
      subst e
      exact pa_cons (pe_cl h2) (pa_cls h3)
    | _ => exact absurd h Bool.false_ne_true
theorem isi_all (ok : POk P) {t : Str} : ∀ {cs : List Str} {b : Bool}, isiAny P.G t cs = some b → (∃ tv, cs ≠ [] → TyV P.X.mg t tv) ∧ ∃ cvs : List Value, Paired (fun c cv => ClV P.X.mg c cv) cs cvs ∧ (∀ tv, TyV P.X.mg t tv → PySem.W.kitAny P.X.K tv cvs = some b)
  | [], b, h => by
    cases h
    exact ⟨⟨.none, fun z => absurd rfl z⟩, [], .nil, fun _ _ => rfl⟩
  | c :: r, b, h => by
    unfold isiAny at h
    cases e1 : P.G.isi t c with
    | none => rw [e1] at h; cases h
    | some x =>
      cases e2 : isiAny P.G t r with
      | none => rw [e1, e2] at h; cases h
      | some y =>
        rw [e1, e2] at h
        have h : some (x || y) = some b := h
        cases h
        obtain ⟨_, cvs, hc, hk⟩ := isi_all ok e2
        obtain ⟨tv, cv, ht, hcv, hone⟩ := ok.wd.isi t c x e1
        refine ⟨⟨tv, fun _ => ht⟩, cv :: cvs, .cons hcv hc, fun tv' ht' => ?_⟩
        cases ht'.inj ht
        unfold PySem.W.kitAny
        rw [hone]
        cases x with
        | true => rfl
        | false => exact hk tv ht
theorem tCls_get {H : Hp} {σ : L2.St} {Q : List V → Hp → Prop} : ∀ {cs : List Str} {cvs : List Value}, Paired (fun c cv => ClV P.X.mg c cv) cs cvs → (∀ vs, Vals vs cvs → Q vs H) → tCls P cs σ H Q
  | _, _, .nil, k => k [] .nil
  | _, _, .cons h t, k => by
    obtain ⟨v, r⟩ := h.rel
    exact ⟨_, v, h, r, tCls_get t fun vs rs => k (v :: vs) (.cons r rs)⟩
theorem relV_uniq {v : V} {cv u : Value} (h : RelV v cv) (h' : RelV v u) (hc : (∃ T, cv = .type T) ∨ ∃ C, cv = .ref C) : u = cv := by
  rcases hc with ⟨T, rfl⟩ | ⟨C, rfl⟩
  · cases v with
    | ty n => have h : Value.type T = Value.type n := h; have h' : u = Value.type n := h'; rw [h', h]
    | non => cases h
    | bl _ => cases h
    | int _ => obtain ⟨_, z⟩ := h; cases z
    | str _ => obtain ⟨_, z⟩ := h; cases z
    | byt _ => obtain ⟨_, z⟩ := h; cases z
    | flt _ => obtain ⟨_, z⟩ := h; cases z
    | ref a => have h : Value.type T = Value.ref a := h; cases h
  · cases v with
    | ref a => have h : Value.ref C = Value.ref a := h; have h' : u = Value.ref a := h'; rw [h', h]
    | non => cases h
    | bl _ => cases h
    | int _ => obtain ⟨_, z⟩ := h; cases z
    | str _ => obtain ⟨_, z⟩ := h; cases z
    | byt _ => obtain ⟨_, z⟩ := h; cases z
    | flt _ => obtain ⟨_, z⟩ := h; cases z
    | ty n => have h : Value.ref C = Value.type n := h; cases h
theorem ClV.form {c : Str} {cv : Value} (h : ClV P.X.mg c cv) : (∃ T, cv = .type T) ∨ ∃ C, cv = .ref C := by
  rcases h with ⟨_, _, _, T, e⟩ | ⟨_, C, e⟩
  · exact .inl ⟨T, e⟩
  · exact .inr ⟨C, e⟩
theorem vals_uniq : ∀ {cs : List Str} {cvs us : List Value} {vs : List V}, Paired (fun c cv => ClV P.X.mg c cv) cs cvs → Vals vs cvs → Vals vs us → us = cvs
  | _, _, _, _, .nil, .nil, .nil => rfl
  | _, _, _, _, .cons h t, .cons r rs, .cons r' rs' => by rw [relV_uniq r r' h.form, vals_uniq t rs rs']
def rIsi1 (P : Px) : List V → Hp → VK → Prop := fun xs H Q => ∃ F d v w tv cv c b, xs = [v, w] ∧ P.rp H F v d ∧ (∃ c b, P.G.isi (tyN d) c = some b) ∧ TyV P.X.mg (tyN d) tv ∧ ClV P.X.mg c cv ∧ RelV w cv ∧ PySem.W.kitOne P.X.K tv cv = some b ∧ Q (.bl b) H
theorem call_isi1 (ok : POk P) : CallR P.X (.builtin "isinstance") (rIsi1 P) := by
  intro pins st σ H xs us Q I r h
  obtain ⟨F, d, v, w, tv, cv, c, b, rfl, rd, hg, ht, hc, rw', hk, q⟩ := h
  obtain ⟨u, u', rfl, ru, ru'⟩ := vals2 r
  cases relV_uniq rw' ru' hc.form
  obtain ⟨Hh, Z, hh, hx⟩ := kit_of ok I rd ru ht hg
  exact PySem.W.kia_one Z I.kIn hh hk hx fun tk => ⟨.bl b, H, I.tok _, rfl, q⟩
def rIsi2 (P : Px) : List V → Hp → VK → Prop := fun xs H Q => ∃ F d v a ws tv cvs cs b, xs = [v, .ref a] ∧ P.rp H F v d ∧ (∃ c b, P.G.isi (tyN d) c = some b) ∧ TyV P.X.mg (tyN d) tv ∧ Paired (fun c cv => ClV P.X.mg c cv) cs cvs ∧ SqT P.X.K H a ws ∧ Vals ws cvs ∧ PySem.W.kitAny P.X.K tv cvs = some b ∧ Q (.bl b) H
theorem call_isi2 (ok : POk P) : CallR P.X (.builtin "isinstance") (rIsi2 P) := by
  intro pins st σ H xs us Q I r h
  obtain ⟨F, d, v, a, ws, tv, cvs, cs, b, rfl, rd, hg, ht, hc, sq, rw', hk, q⟩ := h
  obtain ⟨u, u', rfl, ru, ru'⟩ := vals2 r
  cases ru'
  obtain ⟨its, rv, ⟨o, h1, h2, n, h3⟩, _⟩ := I.tuple sq
  cases vals_uniq hc rw' rv
  obtain ⟨Hh, Z, hh, hx⟩ := kit_of ok I rd ru ht hg
  obtain ⟨oc, od, odt, osl⟩ := o
  cases h2
  cases h3
  exact PySem.W.kia_tup Z I.kIn hh h1 hk hx fun tk => ⟨.bl b, H, I.tok _, rfl, q⟩
theorem isi_first {G : Gm} {t : Str} {cs : List Str} {b : Bool} (hne : cs ≠ []) (h : isiAny G t cs = some b) : ∃ c b, G.isi t c = some b := by
  cases cs with
  | nil => exact absurd rfl hne
  | cons c r =>
    unfold isiAny at h
    cases e : G.isi t c with
    | none => rw [e] at h; cases h
    | some x => exact ⟨c, x, e⟩
theorem TyV.ex (ok : POk P) {t : Str} {cs : List Str} {b : Bool} (hne : cs ≠ []) (h : isiAny P.G t cs = some b) : ∃ tv, TyV P.X.mg t tv := by
  obtain ⟨⟨tv, k⟩, _⟩ := isi_all ok h
  exact ⟨tv, k hne⟩
theorem pe_isi (ok : POk P) {a : E} {cs : List Str} {x y : Expr} {p pos : Pos} (ha : PE P.X x (tD P (ev P.G a))) (hs : noStar x = true) (hg : gl P.X.env.scope "isinstance" = true) (hc : mCls P.X.env.scope cs y = true) :
    PE P.X (.Call (.Name "isinstance" p) [x, y] [] pos) (tD P (ev P.G (.isi a cs))) := by
  obtain ⟨g1, g2⟩ := gl_ok hg
  have key : ∀ {σ : L2.St} {H : Hp} {Q : VK}, tD P (ev P.G (.isi a cs)) σ H Q → tD P (ev P.G a) σ H fun v H' => ∃ F' s d b, Rl P H' F' σ s ∧ P.rp H' F' v d ∧ isiAny P.G (tyN d) cs = some b ∧ RQ P s H' F' (okB b) Q := fun {σ H Q} h => by
    have h : tD P (fun s => bnd (ev P.G a s) fun x => isiop P.G cs x) σ H Q := h
    refine (tD.bnd (f := fun _ x => isiop P.G cs x) h).imp fun v H' ⟨F', s, d, l, r, q⟩ => ?_
    have q : RQ P s H' F' (isiop P.G cs d) Q := q
    unfold isiop at q
    cases e : isiAny P.G (tyN d) cs with
    | none => rw [e] at q; exact (show False from q).elim
    | some b => rw [e] at q; exact ⟨F', s, d, b, l, r, e, q⟩
  cases y with
  | Name d pd =>
    match cs, hc with
    | [], hc => exact absurd hc Bool.false_ne_true
    | _ :: _ :: _, hc => exact absurd hc Bool.false_ne_true
    | [c], hc =>
      obtain ⟨h1, h2⟩ := a2 hc
      have e : c = d := beq_iff_eq.mp h1
      subst e
      refine PE.imp (pe_callB (call_isi1 ok) g1 ok.wd.isi0 boot_isinstance (pa_cons ha (pa_cons (pe_cl h2) pa_nil) (star_ok hs _ _)) (by decide +kernel) g2 (star_ok hs _ _)) fun σ H Q h => ?_
      refine (key h).imp fun v H' ⟨F', s, d, b, l, r, e, q⟩ => ?_
      obtain ⟨tv, ht⟩ := TyV.ex ok (by simp) e
      obtain ⟨_, cvs, hcv, hk⟩ := isi_all ok e
      cases hcv with
      | @cons _ cv _ _ hc1 hr =>
        cases hr
        obtain ⟨w, rw'⟩ := hc1.rel
        refine ⟨cv, w, hc1, rw', F', d, v, w, tv, cv, c, b, rfl, r, isi_first (by simp) e, ht, hc1, rw', ?_, okB_q l.dom q⟩
        have := hk tv ht
        unfold PySem.W.kitAny at this
        cases e : PySem.W.kitOne P.X.K tv cv with
        | none => rw [e] at this; cases this
        | some z =>
          rw [e] at this
          cases z with
          | true => exact this
          | false => exact this
  | Tuple es k pt =>
    refine PE.imp (pe_callB (call_isi2 ok) g1 ok.wd.isi0 boot_isinstance (pa_cons ha (pa_cons (pe_tup (pa_cls (P := P) (a2 hc).1)) pa_nil) (star_ok hs _ _)) (by decide +kernel) g2 (star_ok hs _ _)) fun σ H Q h => ?_
    refine (key h).imp fun v H' ⟨F', s, d, b, l, r, e, q⟩ => ?_
    obtain ⟨_, cvs, hcv, hk⟩ := isi_all ok e
    have hlen : cvs.length = cs.length := (Paired.length hcv).symm
    refine tCls_get hcv fun ws rws => ?_
    have hne : cs ≠ [] := by
      have := (a2 (a2 hc).2).2
      cases cs with
      | nil => exact absurd this Bool.false_ne_true
      | cons _ _ => exact fun z => by cases z
    obtain ⟨tv, ht⟩ := TyV.ex ok hne e
    have hl := rws.length
    refine ⟨?_, fun p hn => ?_⟩
    · rw [hl, hlen]
      exact Nat.le_of_lt (small1000 (of_decide_eq_true (a2 (a2 hc).2).1))
    · have gr := grow_new (o := .tup ws) l.dom hn
      exact ⟨_, d, v, p, ws, tv, cvs, cs, b, rfl, r.grow gr, isi_first hne e, ht, hcv, SqT.of upd_same, rws, hk tv ht, okB_q (l.grow gr).dom (q.grow gr)⟩
  | _ => exact absurd hc Bool.false_ne_true
theorem fnC_of {k : Nat} {a : Addr} {fd : FuncData} {ps : List Str} {fe : Fe} (F : FnOk P.X.prog P.X.w P.X.K P.X.mg P.X.base (CXm P.X.prog P.X.w) k a fd ps (spM P.X.K P.X.mg P.T fe.np fe.phi)) (hr : Room k P.X.A) (df : DfOk P.X.K P.X.mg fd ps fe.dv) (hx : XPass P) : FnC P a fe := by
  intro pins st σ H F1 s vs us ds Q I l rv rd q
  unfold useFn at q
  by_cases hc : ds.length ≤ fe.np ∧ fe.np ≤ ds.length + fe.dv.length
  · have q : RQ P s H F1 (if ds.length ≤ fe.np ∧ fe.np ≤ ds.length + fe.dv.length then fe.phi (ds ++ fe.dv.drop (fe.dv.length - (fe.np - ds.length))) else .bad) Q := q
    rw [if_pos hc] at q
    obtain ⟨dsV, dsU, dvv, drp, hb⟩ := df.all (fe.np - ds.length) (by omega)
    have r2 : Vals (vs ++ dsV) (us ++ dsU) := rv.append dvv
    have rd2 := rd.append (drp H F1)
    have hdl : (ds ++ fe.dv.drop (fe.dv.length - (fe.np - ds.length))).length = fe.np := by
      rw [List.length_append, List.length_drop]
      omega
    generalize e : fe.phi (ds ++ fe.dv.drop (fe.dv.length - (fe.np - ds.length))) = r0 at q
    have run : ∀ E : XK, spM P.X.K P.X.mg P.T fe.np fe.phi (vs ++ dsV) H Q E → (∀ ex s', CXm P.X.prog P.X.w P.X.stack H st E ex s' → P.X.xe ex s') → wpAny (model P.X.prog P.X.w) P.X.A (call (.ref a) us) (EP P.X pins σ Q) P.X.xe st := fun E hsp hE => by
      have hl : (us ++ dsU).length = ps.length := by rw [← r2.length]; exact F.len _ _ _ _ hsp
      refine wpAny_call (codeAny_mono (F.run P.X.A P.X.stack st H ⟨us, []⟩ (us ++ dsU) (vs ++ dsV) Q E hr I.env0 (hb st us I.kIn hl) r2 hsp) fun r s' hq => ?_)
      cases r with
      | error ex => exact hE ex s' hq
      | ok fl =>
        cases fl with
        | ret u => exact I.after hq
        | next => exact False.elim hq
        | brk => exact False.elim hq
        | cont => exact False.elim hq
    cases r0 with
    | ok d => exact run (fun _ _ _ => False) ⟨F1, _, l.tb, l.dom, rd2, hdl, by rw [e]; exact q⟩ fun ex s' ⟨_, _, _, _, _, z⟩ => z.elim
    | own d => exact run (fun _ _ _ => False) ⟨F1, _, l.tb, l.dom, rd2, hdl, by rw [e]; exact q⟩ fun ex s' ⟨_, _, _, _, _, z⟩ => z.elim
    | exn d => exact run (XE P.X.mg H F1 d) ⟨F1, _, l.tb, l.dom, rd2, hdl, by rw [e]; exact fun a C H' F' g x => ⟨a, C, F', rfl, rfl, g, x⟩⟩ fun ex s' z => hx pins σ H F1 s st ex s' d I l q z
    | bad => exact (show False from q).elim
  · have q : RQ P s H F1 (if ds.length ≤ fe.np ∧ fe.np ≤ ds.length + fe.dv.length then fe.phi (ds ++ fe.dv.drop (fe.dv.length - (fe.np - ds.length))) else .bad) Q := q
    rw [if_neg hc] at q
    exact (show False from q).elim
theorem fnK_of {k : Nat} {a : Addr} {fd : FuncData} {ps : List Str} {fe : Fe} {kn : Str} (F : FnOk P.X.prog P.X.w P.X.K P.X.mg P.X.base (CXm P.X.prog P.X.w) k a fd ps (spM P.X.K P.X.mg P.T fe.np fe.phi)) (hr : Room k P.X.A) (hnp : fe.np = ps.length) (kb : KwOk P.X.K fd ps kn) (hx : XPass P)
    {pins : List (Addr × Obj)} {st : Shared} {σ : L2.St} {H : Hp} {F1 : Fz} {s : En} {vs : List V} {us : List Value} {ds : List D} {v : V} {u : Value} {d : D} {Q : VK} (I : Inv P.X pins σ H st) (l : Rl P H F1 σ s) (rv : Vals vs us) (ru : RelV v u) (rd : P.rps H F1 vs ds) (r1 : P.rp H F1 v d) (hlen : ds.length + 1 = ps.length)
    (q : RQ P s H F1 (useFn (some fe) (ds ++ [d])) Q) : wpAny (model P.X.prog P.X.w) P.X.A (call (.ref a) us [(kn, u)]) (EP P.X pins σ Q) P.X.xe st := by
  have hld : (ds ++ [d]).length = fe.np := by rw [List.length_append, hnp]; exact hlen
  have e0 : useFn (some fe) (ds ++ [d]) = fe.phi (ds ++ [d]) := by
    show (if (ds ++ [d]).length ≤ fe.np ∧ fe.np ≤ (ds ++ [d]).length + fe.dv.length then fe.phi ((ds ++ [d]) ++ fe.dv.drop (fe.dv.length - (fe.np - (ds ++ [d]).length))) else .bad) = _
    rw [if_pos (by omega), hld, Nat.sub_self, Nat.sub_zero, List.drop_length, List.append_nil]
  rw [e0] at q
  have r2 : Vals (vs ++ [v]) (us ++ [u]) := rv.append (.cons ru .nil)
  have rd2 : P.rps H F1 (vs ++ [v]) (ds ++ [d]) := rd.append (.cons r1 .nil)
  have hus : us.length + 1 = ps.length := by rw [← rv.length, rd.length]; exact hlen
  generalize e : fe.phi (ds ++ [d]) = r0 at q
  have run : ∀ E : XK, spM P.X.K P.X.mg P.T fe.np fe.phi (vs ++ [v]) H Q E → (∀ ex s', CXm P.X.prog P.X.w P.X.stack H st E ex s' → P.X.xe ex s') → wpAny (model P.X.prog P.X.w) P.X.A (call (.ref a) us [(kn, u)]) (EP P.X pins σ Q) P.X.xe st := fun E hsp hE => by
    refine wpAny_call (codeAny_mono (F.run P.X.A P.X.stack st H ⟨us, [(kn, u)]⟩ (us ++ [u]) (vs ++ [v]) Q E hr I.env0 (kb st us u I.kIn hus) r2 hsp) fun r s' hq => ?_)
    cases r with
    | error ex => exact hE ex s' hq
    | ok fl =>
      cases fl with
      | ret u => exact I.after hq
      | next => exact False.elim hq
      | brk => exact False.elim hq
      | cont => exact False.elim hq
  cases r0 with
  | ok d' => exact run (fun _ _ _ => False) ⟨F1, _, l.tb, l.dom, rd2, hld, by rw [e]; exact q⟩ fun ex s' ⟨_, _, _, _, _, z⟩ => z.elim
  | own d' => exact run (fun _ _ _ => False) ⟨F1, _, l.tb, l.dom, rd2, hld, by rw [e]; exact q⟩ fun ex s' ⟨_, _, _, _, _, z⟩ => z.elim
  | exn d' => exact run (XE P.X.mg H F1 d') ⟨F1, _, l.tb, l.dom, rd2, hld, by rw [e]; exact fun a C H' F' g x => ⟨a, C, F', rfl, rfl, g, x⟩⟩ fun ex s' z => hx pins σ H F1 s st ex s' d' I l q z
  | bad => exact (show False from q).elim
theorem run_new {X : Cx} {C : Addr} (M : NewOk X.K C) {pins : List (Addr × Obj)} {σ : L2.St} {H : Hp} {s : Shared} {Q : VK} (I : Inv X pins σ H s) (h : ∀ x dx, H x = none → H dx = none → dx ≠ x → Q (.ref x) (upd (upd H dx (.own x)) x (.ins C dx []))) :
    wpAny (model X.prog X.w) X.A (call (.ref C) []) (EP X pins σ Q) X.xe s := by
  have hq := h (s.heap.objs.size + 1) s.heap.objs.size (I.hok.fresh (Nat.le_succ _)) (I.hok.fresh (Nat.le_refl _)) (Nat.ne_of_lt (Nat.lt_succ_self _))
  have I2 := Inv.made (C := C) I
  have Y := PySem.W.makes_of (M := model X.prog X.w) I.kIn M.makes
  have hx : ((s.heap.push PySem.W.emptyDict).push (PySem.W.instObj C s.heap.objs.size)).get? (s.heap.objs.size + 1) = some (PySem.W.instObj C s.heap.objs.size) := by
    have := Heap.get?_push_size (s.heap.push PySem.W.emptyDict) (o := PySem.W.instObj C s.heap.objs.size) rfl
    rwa [Heap.size_push] at this
  have t1 : PySem.W.Looks (model X.prog X.w) ((s.heap.push PySem.W.emptyDict).push (PySem.W.instObj C s.heap.objs.size)) (typeOf (.ref (s.heap.objs.size + 1))) (.ref C) := (PySem.W.Looks.ld hx).andThen .now
  have t2 : PySem.W.Looks (model X.prog X.w) ((s.heap.push PySem.W.emptyDict).push (PySem.W.instObj C s.heap.objs.size)) (isInstance (.ref (s.heap.objs.size + 1)) (.type "object")) true := t1.andThen (Y.top.keeps fun b o e => Heap.get?_push_of_some _ (Heap.get?_push_of_some _ e))
  refine wpAny_call (make_map0 I.kIn M.makes M.init (fun self => PySem.W.Looks.of_pure (PySem.W.oi_bind self)) ?_)
  refine codeAny_call_builtin PySem.W.oi_plain PySem.W.entry_oi (@PySem.W.check_slot (model X.prog X.w) _ _ _ "object.__init__" "object" "__init__" (.ref (s.heap.objs.size + 1)) [] [] _ PySem.W.oi_kind PySem.W.oi_split t2 (PySem.W.oi_args (.ref (s.heap.objs.size + 1))) ?_)
  rw [PySem.W.oi_run]
  exact wpAny_pure (And.intro rfl ⟨V.ref (s.heap.objs.size + 1), _, I2, rfl, hq⟩)
theorem wp_meth {M : Model} {A : Around} {E : Value → Shared → Prop} {s : Shared} {env : Env} {o : Expr} {name : Str} {apos pos : Pos} {args : List Expr} {Q : Value → Shared → Prop} (hbase : attributeBase o name env (eval o env) = eval o env)
    (hform : methodCallForm (args.length + ([] : List Keyword).length) (backTo pos (starEach args env)) (backToKw pos (keywordEach [] env)) = true) (hline : (apos.endLine == pos.line) = true)
    (h : ∀ pl : Sem Bool, wpAny M A (eval o env) (fun ov s₁ => wpAny M A (getMethod ov name pl) (fun fx s₂ => wpAny M A (callWith pos fx.1 fx.2 (backTo pos (starEach args env)) (backToKw pos (keywordEach [] env))) Q E s₂) E s₁) E s) :
    wpAny M A (eval (.Call (.Attribute o name apos) args [] pos) env) Q E s := by
  refine PySem.W.methodCall_KW (pl := (do return (← importBound o env).getD true)) (h _) ?_
  rw [arm_eval_Call, hbase]
  unfold methodCall calleeOf methodCallPos
  simp only [hform, hline, if_true, Bool.not_true, Bool.or_true]
  rfl
end
end Nf
set_option linter.all false
set_option maxRecDepth 100000
set_option autoImplicit false
set_option maxHeartbeats 4000000
namespace Nf
open PySem L2 PySem.Spec PyProof.Rows
section
variable {P : Px}
def SQ (P : Px) (H : Hp) (F : Fz) (Ed : Ends) (r : SR) : Prop := match r with
  | .nx s' => ∀ σ' H' F', Keep H F H' F' → Rl P H' F' σ' s' → Ed.nx σ' H'
  | .bk s' => ∀ σ' H' F', Keep H F H' F' → Rl P H' F' σ' s' → Ed.bk σ' H'
  | .ct s' => ∀ σ' H' F', Keep H F H' F' → Rl P H' F' σ' s' → Ed.ct σ' H'
  | .rt d => ∀ v H' F', Grow P.H0 P.F0 H' F' → P.rp H' F' v d → Ed.rt v H'
  | .rto l => ∀ p vs H' F', Grow P.H0 P.F0 H' F' → P.H0 p = none → ¬ F' p → H' p = some (.lst vs) → P.rps H' F' vs l → Ed.rt (.ref p) H'
  | .ex d s' => P.W d s'
  | .bad => False
def tS (P : Px) (t : En → SR) : TS := fun Ed σ H => ∃ F s, Rl P H F σ s ∧ SQ P H F Ed (t s)
theorem SQ.keep {H H' : Hp} {F F' : Fz} {Ed : Ends} {r : SR} (g : Keep H F H' F') (h : SQ P H F Ed r) : SQ P H' F' Ed r := by
  cases r with
  | nx s => exact fun σ H2 F2 k l => h σ H2 F2 (g.trans k) l
  | bk s => exact fun σ H2 F2 k l => h σ H2 F2 (g.trans k) l
  | ct s => exact fun σ H2 F2 k l => h σ H2 F2 (g.trans k) l
  | _ => exact h
theorem SQ.imp {H : Hp} {F : Fz} {Ed Ed' : Ends} {r : SR} (h : SQ P H F Ed r) (n : ∀ σ H, Ed.nx σ H → Ed'.nx σ H) (b : ∀ σ H, Ed.bk σ H → Ed'.bk σ H) (c : ∀ σ H, Ed.ct σ H → Ed'.ct σ H) (t : ∀ v H, Ed.rt v H → Ed'.rt v H) : SQ P H F Ed' r := by
  cases r with
  | nx s => exact fun σ H2 F2 k l => n _ _ (h σ H2 F2 k l)
  | bk s => exact fun σ H2 F2 k l => b _ _ (h σ H2 F2 k l)
  | ct s => exact fun σ H2 F2 k l => c _ _ (h σ H2 F2 k l)
  | rt d => exact fun v H2 F2 g r => t _ _ (h v H2 F2 g r)
  | rto l => exact fun p vs H2 F2 g n0 f e r => t _ _ (h p vs H2 F2 g n0 f e r)
  | ex d s => exact h
  | bad => exact h
theorem SQ.sbn {s : En} {H : Hp} {F : Fz} {Ed : Ends} {r : R} {f : D → SR} (h : SQ P H F Ed (sbn s r f)) : RQ P s H F r fun v H' => ∃ F' d, Grow H F H' F' ∧ P.rp H' F' v d ∧ SQ P H' F' Ed (f d) := by
  cases r with
  | ok d => exact fun v H2 F2 g2 q => ⟨F2, d, g2, q, SQ.keep g2.keep h⟩
  | own l =>
    intro p vs H2 F2 g2 n f e q
    obtain ⟨g3, q3⟩ := frz_new g2 n e q
    exact ⟨_, .lst l, g3, q3, SQ.keep g3.keep h⟩
  | exn d => exact h
  | bad => exact h
theorem tS.sbn {t : En → R} {f : En → D → SR} {σ : L2.St} {H : Hp} {Ed : Ends} (h : tS P (fun s => Nf.sbn s (t s) (f s)) Ed σ H) :
    tD P t σ H fun v H' => ∃ F' s d, Rl P H' F' σ s ∧ P.rp H' F' v d ∧ SQ P H' F' Ed (f s d) := by
  obtain ⟨F, s, l, q⟩ := h
  exact ⟨F, s, l, (SQ.sbn q).imp fun v H' ⟨F', d, g, r, q⟩ => ⟨F', s, d, l.grow g, r, q⟩⟩
theorem Rl.set {H : Hp} {F : Fz} {σ : L2.St} {s : En} {i : Nat} {v : V} {d : D} (l : Rl P H F σ s) (r : P.rp H F v d) : Rl P H F (σ.set i (some v)) (s.set i (.val d)) := by
  have ne : ∀ (j : Nat) (x : Sl), (s.set i (.val d))[j]? = some x → x.mine = true → j ≠ i ∧ s[j]? = some x := fun j x e hx => by
    by_cases hj : j = i
    · subst hj
      by_cases hl : j < s.length
      · rw [List.getElem?_set_self hl] at e; cases e; cases hx
      · rw [List.getElem?_eq_none_iff.mpr (by rw [List.length_set]; omega)] at e; cases e
    · rw [List.getElem?_set_ne (Ne.symm hj)] at e; exact ⟨hj, e⟩
  refine ⟨l.g, by rw [List.length_set, List.length_set]; exact l.len, fun j x e => ?_, fun j k p m m' e1 e2 y1 y2 e3 e4 => ?_, l.kp, l.tb⟩
  · by_cases hj : j = i
    · subst hj
      have hl : j < s.length := by
        have := (List.getElem?_eq_some_iff.mp e).1
        rw [List.length_set] at this; exact this
      rw [List.getElem?_set_self hl] at e
      cases e
      exact ⟨some v, List.getElem?_set_self (by rw [l.len]; exact hl), v, rfl, r⟩
    · rw [List.getElem?_set_ne (Ne.symm hj)] at e ⊢
      exact l.slot j x e
  · obtain ⟨n1, e1⟩ := ne j m e1 y1
    obtain ⟨n2, e2⟩ := ne k m' e2 y2
    rw [List.getElem?_set_ne (Ne.symm n1)] at e3
    rw [List.getElem?_set_ne (Ne.symm n2)] at e4
    exact l.apart j k p m m' e1 e2 y1 y2 e3 e4
theorem Rl.mine_at {H : Hp} {F : Fz} {σ : L2.St} {s : En} {j : Nat} {x : Sl} (l : Rl P H F σ s) (e : s[j]? = some x) (hx : x.mine = true) : ∃ p o, σ[j]? = some (some (.ref p)) ∧ H p = some o ∧ ¬ F p ∧ P.H0 p = none := by
  obtain ⟨o, e3, q⟩ := l.slot j _ e
  cases x with
  | no => cases hx
  | val d => cases hx
  | own m => obtain ⟨p, vs, e4, e5, n, h0, _⟩ := q; subst e4; exact ⟨p, _, e3, e5, n, h0⟩
  | dic ks m => obtain ⟨p, vs, e4, e5, n, h0, _⟩ := q; subst e4; exact ⟨p, _, e3, e5, n, h0⟩
theorem Rl.setMine {H H' : Hp} {F F' : Fz} {σ : L2.St} {s : En} {i : Nat} {p : Addr} {y : Sl} (l : Rl P H F σ s) (g : Grow H F H' F') (n : H p = none) (hy : P.slot H' F' y (some (.ref p))) :
    Rl P H' F' (σ.set i (some (.ref p))) (s.set i y) := by
  have l' := l.grow g
  have old : ∀ (j : Nat) (x : Sl), s[j]? = some x → x.mine = true → σ[j]? ≠ some (some (.ref p)) := fun j x e1 hx e2 => by
    obtain ⟨p', o, e3, e5, _⟩ := l.mine_at e1 hx
    rw [e2] at e3
    cases e3
    rw [n] at e5; cases e5
  refine ⟨l'.g, by rw [List.length_set, List.length_set]; exact l.len, fun j x e1 => ?_, fun j k q m m' e1 e2 y1 y2 e3 e4 => ?_, l'.kp, l'.tb⟩
  · by_cases hj : j = i
    · subst hj
      have hl : j < s.length := by
        have := (List.getElem?_eq_some_iff.mp e1).1
        rw [List.length_set] at this; exact this
      rw [List.getElem?_set_self hl] at e1
      cases e1
      exact ⟨some (.ref p), List.getElem?_set_self (by rw [l.len]; exact hl), hy⟩
    · rw [List.getElem?_set_ne (Ne.symm hj)] at e1 ⊢
      exact l'.slot j x e1
  · have hlen : ∀ {j : Nat} {x : Sl}, (s.set i y)[j]? = some x → j < s.length := fun {j x} h => by
      have := (List.getElem?_eq_some_iff.mp h).1
      rw [List.length_set] at this; exact this
    by_cases hj : j = i
    · by_cases hk : k = i
      · rw [hj, hk]
      · subst hj
        rw [List.getElem?_set_ne (Ne.symm hk)] at e2 e4
        rw [List.getElem?_set_self (by rw [l.len]; exact hlen e1)] at e3
        cases e3
        exact absurd e4 (old k m' e2 y2)
    · by_cases hk : k = i
      · subst hk
        rw [List.getElem?_set_ne (Ne.symm hj)] at e1 e3
        rw [List.getElem?_set_self (by rw [l.len]; exact hlen e2)] at e4
        cases e4
        exact absurd e3 (old j m e1 y1)
      · rw [List.getElem?_set_ne (Ne.symm hj)] at e1 e3
        rw [List.getElem?_set_ne (Ne.symm hk)] at e2 e4
        exact l.apart j k q m m' e1 e2 y1 y2 e3 e4
theorem Rl.wrMine {H : Hp} {F : Fz} {σ : L2.St} {s : En} {i : Nat} {p : Addr} {x0 y : Sl} {ob : HO} (l : Rl P H F σ s) (e : s[i]? = some x0) (hx : x0.mine = true) (hym : y.mine = true) (e1 : σ[i]? = some (some (.ref p))) (nf : ¬ F p) (h0 : P.H0 p = none) (tb : TabsIn P.T (upd H p ob))
    (hy : Keep H F (upd H p ob) F → P.slot (upd H p ob) F y (some (.ref p))) :
    Rl P (upd H p ob) F σ (s.set i y) ∧ Keep H F (upd H p ob) F := by
  have k : Keep H F (upd H p ob) F := ⟨fun a o f e => by rw [upd_ne (fun z => nf (by rw [← z]; exact f))]; exact e, fun _ h => h⟩
  have hi : i < s.length := (List.getElem?_eq_some_iff.mp e).1
  refine ⟨⟨⟨fun a o ea => ?_, l.g.sub, l.g.old, fun a f => ?_⟩, by rw [List.length_set]; exact l.len, fun j x ej => ?_, fun j q p' m m' f1 f2 y1 y2 f3 f4 => ?_, l.kp.trans k, tb⟩, k⟩
  · rw [upd_ne (fun z => by rw [z, h0] at ea; cases ea)]; exact l.g.same a o ea
  · obtain ⟨o, eo⟩ := l.dom a f
    exact ⟨o, by rw [upd_ne (fun z => nf (by rw [← z]; exact f))]; exact eo⟩
  · by_cases hj : j = i
    · subst hj
      rw [List.getElem?_set_self hi] at ej
      cases ej
      exact ⟨_, e1, hy k⟩
    · rw [List.getElem?_set_ne (Ne.symm hj)] at ej
      obtain ⟨o, e3, q⟩ := l.slot j x ej
      refine ⟨o, e3, ?_⟩
      cases x with
      | no => trivial
      | val d' => obtain ⟨w, e4, q⟩ := q; exact ⟨w, e4, q.keep k⟩
      | own m =>
        obtain ⟨p', ws, e4, e5, n5, e6, q⟩ := q
        subst e4
        have hne : p' ≠ p := fun z => by
          subst z
          exact hj (l.apart j i p' _ _ ej e rfl hx e3 e1)
        exact ⟨p', ws, rfl, by rw [upd_ne hne]; exact e5, n5, e6, q.keep k⟩
      | dic ks m =>
        obtain ⟨p', ws, e4, e5, n5, e6, hl, q⟩ := q
        subst e4
        have hne : p' ≠ p := fun z => by
          subst z
          exact hj (l.apart j i p' _ _ ej e rfl hx e3 e1)
        exact ⟨p', ws, rfl, by rw [upd_ne hne]; exact e5, n5, e6, hl, q.keep k⟩
  · have back : ∀ {j : Nat} {x : Sl}, (s.set i y)[j]? = some x → x.mine = true → ∃ x', s[j]? = some x' ∧ x'.mine = true := fun {j x} h hm => by
      by_cases hj : j = i
      · subst hj; exact ⟨x0, e, hx⟩
      · rw [List.getElem?_set_ne (Ne.symm hj)] at h; exact ⟨x, h, hm⟩
    obtain ⟨_, f1, z1⟩ := back f1 y1
    obtain ⟨_, f2, z2⟩ := back f2 y2
    exact l.apart j q p' _ _ f1 f2 z1 z2 f3 f4
theorem Rl.setOwn {H H' : Hp} {F F' : Fz} {σ : L2.St} {s : En} {i : Nat} {p : Addr} {vs : List V} {ds : List D} (l : Rl P H F σ s) (g : Grow H F H' F') (n : H p = none) (f : ¬ F' p) (e : H' p = some (.lst vs)) (r : P.rps H' F' vs ds) :
    Rl P H' F' (σ.set i (some (.ref p))) (s.set i (.own ds)) :=
  l.setMine g n ⟨p, vs, rfl, e, f, l.g.same.free n, r⟩
theorem Rl.app {H : Hp} {F : Fz} {σ : L2.St} {s : En} {i : Nat} {p : Addr} {vs : List V} {ds : List D} {v : V} {d : D} (l : Rl P H F σ s) (e : s[i]? = some (.own ds)) (e1 : σ[i]? = some (some (.ref p))) (e2 : H p = some (.lst vs)) (nf : ¬ F p) (h0 : P.H0 p = none) (r : P.rps H F vs ds) (rv : P.rp H F v d) :
    Rl P (upd H p (.lst (vs ++ [v]))) F σ (s.set i (.own (ds ++ [d]))) ∧ Keep H F (upd H p (.lst (vs ++ [v]))) F :=
  l.wrMine e rfl rfl e1 nf h0 (l.tb.upd e2) fun k => ⟨p, vs ++ [v], rfl, upd_same, nf, h0, (r.keep k).append (.cons (rv.keep k) .nil)⟩
theorem Rl.wr {H : Hp} {F : Fz} {σ : L2.St} {s : En} {i : Nat} {p : Addr} {vs : List V} {ds : List D} {ws : List V} {es : List D} (l : Rl P H F σ s) (e : s[i]? = some (.own ds)) (e1 : σ[i]? = some (some (.ref p))) (e2 : H p = some (.lst vs)) (nf : ¬ F p) (h0 : P.H0 p = none) (r : P.rps H F vs ds) (rv : P.rps H F ws es) :
    Rl P (upd H p (.lst ws)) F σ (s.set i (.own es)) ∧ Keep H F (upd H p (.lst ws)) F :=
  l.wrMine e rfl rfl e1 nf h0 (l.tb.upd e2) fun k => ⟨p, ws, rfl, upd_same, nf, h0, rv.keep k⟩
theorem Rps.set {K : PySem.W.Frag} {mg : Str → Option Value} {H : Hp} {F : Fz} {v : V} {d : D} (r : Rp K mg H F v d) : ∀ {vs : List V} {ds : List D} (i : Nat), Rps K mg H F vs ds → Rps K mg H F (vs.set i v) (ds.set i d)
  | _, _, _, .nil => .nil
  | _, _, 0, .cons _ b => .cons r b
  | _, _, i + 1, .cons a b => .cons a (Rps.set r i b)
theorem Rl.frzOne {H : Hp} {F : Fz} {σ : L2.St} {s : En} {i : Nat} {p : Addr} {x0 : Sl} {d : D} {ob : HO} (l : Rl P H F σ s) (e : s[i]? = some x0) (hx : x0.mine = true) (e1 : σ[i]? = some (some (.ref p))) (e3 : H p = some ob) (nf : ¬ F p) (h0 : P.H0 p = none)
    (hy : Keep H F H (fun a => F a ∨ a = p) → P.rp H (fun a => F a ∨ a = p) (.ref p) d) : ∃ F', Rl P H F' σ (s.set i (.val d)) ∧ Keep H F H F' := by
  have hi : i < s.length := (List.getElem?_eq_some_iff.mp e).1
  have k : Keep H F H (fun a => F a ∨ a = p) := ⟨fun _ _ _ e => e, fun _ h => .inl h⟩
  refine ⟨fun a => F a ∨ a = p, ⟨⟨l.g.same, fun a f => .inl (l.g.sub a f), fun a o ea f => ?_, fun a f => ?_⟩, by show σ.length = (s.set i _).length; rw [List.length_set]; exact l.len, fun j x ej => ?_, fun j q p' m m' f1 f2 y1 y2 f3 f4 => ?_, l.kp.trans k, l.tb⟩, k⟩
  · rcases f with f | f
    · exact l.g.old a o ea f
    · rw [f, h0] at ea; cases ea
  · rcases f with f | f
    · exact l.dom a f
    · rw [f]; exact ⟨_, e3⟩
  · by_cases hj : j = i
    · subst hj
      rw [List.getElem?_set_self hi] at ej
      cases ej
      exact ⟨_, e1, .ref p, rfl, hy k⟩
    · rw [List.getElem?_set_ne (Ne.symm hj)] at ej
      obtain ⟨o', e4, q⟩ := l.slot j x ej
      refine ⟨o', e4, ?_⟩
      cases x with
      | no => trivial
      | val d' => obtain ⟨w, e5, q⟩ := q; exact ⟨w, e5, q.keep k⟩
      | own m =>
        obtain ⟨p', ws, e5, e6, n6, e7, q⟩ := q
        subst e5
        refine ⟨p', ws, rfl, e6, fun z => z.elim n6 fun z => ?_, e7, q.keep k⟩
        subst z
        exact hj (l.apart j i p' _ _ ej e rfl hx e4 e1)
      | dic ks m =>
        obtain ⟨p', ws, e5, e6, n6, e7, hl, q⟩ := q
        subst e5
        refine ⟨p', ws, rfl, e6, fun z => z.elim n6 fun z => ?_, e7, hl, q.keep k⟩
        subst z
        exact hj (l.apart j i p' _ _ ej e rfl hx e4 e1)
  · have back : ∀ {j : Nat} {x : Sl}, (s.set i (.val d))[j]? = some x → x.mine = true → s[j]? = some x := fun {j x} h hm => by
      by_cases hj : j = i
      · subst hj; rw [List.getElem?_set_self hi] at h; cases h; cases hm
      · rw [List.getElem?_set_ne (Ne.symm hj)] at h; exact h
    exact l.apart j q p' m m' (back f1 y1) (back f2 y2) y1 y2 f3 f4
theorem Rl.frz {H : Hp} : ∀ {is : List Nat} {F : Fz} {σ : L2.St} {s : En}, Rl P H F σ s → ∃ F', Rl P H F' σ (frzS is s) ∧ Keep H F H F'
  | [], F, σ, s, l => ⟨F, l, Keep.refl H F⟩
  | i :: r, F, σ, s, l => by
    have step : ∃ F', Rl P H F' σ (match s[i]? with | some (.own l) => s.set i (.val (.lst l)) | some (.dic ks l) => s.set i (.val (.dct ks l)) | _ => s) ∧ Keep H F H F' := by
      cases e : s[i]? with
      | none => exact ⟨F, l, Keep.refl H F⟩
      | some x =>
        cases x with
        | no => exact ⟨F, l, Keep.refl H F⟩
        | val d => exact ⟨F, l, Keep.refl H F⟩
        | own ds =>
          obtain ⟨o, e1, p, vs, e2, e3, nf, h0, rv⟩ := l.slot i _ e
          subst e2
          exact l.frzOne e rfl e1 e3 nf h0 fun k => .lst (.inl ⟨.inr rfl, .inl e3⟩) (rv.keep k)
        | dic ks ds =>
          obtain ⟨o, e1, p, vs, e2, e3, nf, h0, hl, rv⟩ := l.slot i _ e
          subst e2
          exact l.frzOne e rfl e1 e3 nf h0 fun k => .dct (.inr rfl) e3 hl (rv.keep k)
    obtain ⟨F1, l1, k1⟩ := step
    obtain ⟨F2, l2, k2⟩ := Rl.frz (is := r) l1
    exact ⟨F2, l2, k1.trans k2⟩
def gL : List Nat → TGs
  | [] => gNil
  | i :: r => gCons (gName i) (gL r)
theorem gL_put {H : Hp} {F : Fz} {Q : L2.St → Hp → Prop} : ∀ {is : List Nat} {vs : List V} {ds : List D} {σ : L2.St} {s s' : En}, Rl P H F σ s → P.rps H F vs ds → putL is ds s = some s' → (∀ σ', Rl P H F σ' s' → Q σ' H) → gL is vs σ H Q
  | [], [], [], σ, s, s', l, _, e, k => by cases e; exact ⟨rfl, k σ l⟩
  | [], _ :: _, [], _, _, _, _, r, _, _ => by cases r
  | [], _, _ :: _, _, _, _, _, _, e, _ => by cases e
  | i :: is, _, [], _, _, _, _, _, e, _ => by cases e
  | i :: is, [], _ :: _, _, _, _, _, r, _, _ => by cases r
  | i :: is, v :: vs, d :: ds, σ, s, s', l, r, e, k => by
    cases r with
    | cons r1 r2 => exact ⟨v, vs, rfl, gL_put (l.set r1) r2 e k⟩
end
end Nf
set_option linter.all false
set_option maxRecDepth 100000
set_option autoImplicit false
set_option maxHeartbeats 4000000
namespace Nf
open PySem L2 PySem.Spec PyProof.Rows
open Sem (wp)
open AutoSeq1 (wpAny_loadPart')
section
variable {prog : Program} {w : World} {A : Around} {E : Value → Shared → Prop} {s : Shared}
theorem nextOf_tuple_item {it l : Addr} {i : Nat} {items : Array Value} {x : Value} {Q : Value → Shared → Prop} (hit : s.heap.IsTupleIter it l i)
    (hl : s.heap.IsTuple l items) (hx : items[i]? = some x)
    (hQ : ∀ h', h'.IsTupleIter it l (i + 1) → Heap.SameBut it s.heap h' → Q x { s with heap := h' }) :
    wpAny (model prog w) A (Builtin.SmallTypes.nextOf (.ref it)) Q E s := by
  obtain ⟨o, ho, hc, hd⟩ := id hit
  obtain ⟨ol, hol, _, nl, hdl⟩ := hl
  unfold Builtin.SmallTypes.nextOf
  refine wpAny_bind (wpAny_callSpecial?_slot (name := Str.ofString "__next__") hit.typeIs F.slot_tuple_iterator_next
    (wpAny_call_entry F.slot_tuple_iterator_next hit.typeIs F.entry_tuple_iterator_next ?_ (F.args_tuple_iterator_next_1 _)))
  show wpAny _ _ (field (.ref it) 0 >>= _) _ _ s
  refine wpAny_bind (wpAny_field ho hd (x := .ref l) rfl ?_)
  show wpAny _ _ (if (Value.ref l == Value.none) = true then _ else _) _ _ s
  rw [if_neg (show ¬ ((Value.ref l == Value.none) = true) from Bool.false_ne_true)]
  show wpAny _ _ (field (.ref it) 1 >>= _) _ _ s
  refine wpAny_bind (wpAny_field ho hd (x := .int i 0) rfl ?_)
  show wpAny _ _ (seqItems? (.ref l) >>= _) _ _ s
  refine wpAny_bind (wpAny_seqItems hol hdl ?_)
  simp only [Int.toNat_natCast, hx]
  refine wpAny_bind (wpAny_setField ho hd (by simp) (wpAny_pure ⟨x, rfl, wpAny_pure (hQ _ ?_ (Heap.SameBut.update ..))⟩))
  exact ⟨_, Heap.get?_update_self _ ho (Obj.isFreed_of_fields (Obj.data_mapFields hd _)), (Obj.cls_mapFields ..).trans hc, by
    rw [Obj.data_mapFields hd]; simp [rawInt]⟩
theorem nextOf_tuple_end {it l : Addr} {i : Nat} {items : Array Value} {Q : Value → Shared → Prop} (hh : A.handled = none)
    (hit : s.heap.IsTupleIter it l i) (hl : s.heap.IsTuple l items) (hx : items[i]? = none)
    (hE : ∀ h' e, Heap.ExtBut it s.heap h' → (∃ o, h'.get? e = some o ∧ o.cls = .type "StopIteration") → E (.ref e) { s with heap := h' }) :
    wpAny (model prog w) A (Builtin.SmallTypes.nextOf (.ref it)) Q E s := by
  obtain ⟨o, ho, hc, hd⟩ := id hit
  obtain ⟨ol, hol, _, nl, hdl⟩ := hl
  unfold Builtin.SmallTypes.nextOf
  refine wpAny_bind (wpAny_callSpecial?_slot (name := Str.ofString "__next__") hit.typeIs F.slot_tuple_iterator_next
    (wpAny_call_entry F.slot_tuple_iterator_next hit.typeIs F.entry_tuple_iterator_next ?_ (F.args_tuple_iterator_next_1 _)))
  show wpAny _ _ (field (.ref it) 0 >>= _) _ _ s
  refine wpAny_bind (wpAny_field ho hd (x := .ref l) rfl ?_)
  show wpAny _ _ (if (Value.ref l == Value.none) = true then _ else _) _ _ s
  rw [if_neg (show ¬ ((Value.ref l == Value.none) = true) from Bool.false_ne_true)]
  show wpAny _ _ (field (.ref it) 1 >>= _) _ _ s
  refine wpAny_bind (wpAny_field ho hd (x := .int i 0) rfl ?_)
  show wpAny _ _ (seqItems? (.ref l) >>= _) _ _ s
  refine wpAny_bind (wpAny_seqItems hol hdl ?_)
  simp only [Int.toNat_natCast, hx]
  refine wpAny_bind (wpAny_rule (wpAny_bind (wpAny_setField ho hd (by simp) ?_)))
  show wpAny _ _ (newExc (.type "StopIteration") [] >>= _) _ _ _
  refine wpAny_bind ?_
  simp only [newExc, newTuple]
  refine wpAny_bind (wpAny_newObj_type ?_ (by size_fits))
  refine wpAny_bind (m := firstArgMember _ _) (wpAny_of_eq (a := Value.none) (by first | rfl | (simp only [firstArgMember]; rfl)) ?_)
  refine wpAny_newObj_type ?_ (by size_fits)
  simp only [raiseNew]
  refine wpAny_bind (wpAny_handled ?_)
  first | rw [show A.in1.handled = none from hh] | rw [hh]
  refine wpAny_bind (wpAny_pure (wpAny_throw ?_))
  exact hE _ _ (((Heap.SameBut.update ..).extBut.push _).push _) ⟨_, Heap.get?_push_size _ rfl, rfl⟩
end
theorem draws_tuple {prog : Program} {w : World} {A : Around} (hh : A.handled = none) (it l : Addr) (hne : l ≠ it) (items : Array Value) :
    Draws prog w A it [it, l] items.size (fun i v => items[i]? = some v) (fun i h => h.IsTupleIter it l i ∧ h.IsTuple l items) where
  live := fun _ _ st => let ⟨o, ho, _⟩ := st.1; ⟨o, ho⟩
  frame := fun _ _ _ st hk => ⟨st.1.at fun o e => hk it (by simp) o e, let ⟨o, e, r⟩ := st.2; ⟨o, hk l (by simp) o e, r⟩⟩
  item := fun i s Q E hi st hQ => by
    refine nextOf_tuple_item st.1 st.2 (x := items[i]) (by simp [hi]) fun h' hit' hs' => ?_
    exact hQ _ h' s.toks (by simp [hi]) ⟨hit', let ⟨o, e, r⟩ := st.2; ⟨o, (hs'.2 l hne).trans e, r⟩⟩ hs'
  done := fun s Q E st hE => nextOf_tuple_end hh st.1 st.2 (by simp) hE
theorem meets_enumerate_newT (l : Addr) (items : Array Value) (n : Nat) (dct : Option Addr) (sl : Array (Option Value)) :
    Meets (Builtin.«enumerate.__new__» ⟨[.type "enumerate", .ref l], []⟩) (fun _ R s => s.heap.get? l = some { cls := .type "tuple", dict := dct, data := .seq items n, slots := sl } ∧
      R (.ok (.ret (.ref (s.heap.push { cls := .type "tuple_iterator", data := .fields #[.ref l, .int 0 0] }).objs.size)))
        { s with heap := (s.heap.push { cls := .type "tuple_iterator", data := .fields #[.ref l, .int 0 0] }).push { cls := .type "enumerate", data := .fields #[.none, .bool false, .ref s.heap.objs.size, rawInt 0, .none, .none] } }) :=
  .of_wp fun prog w A R s h => by
    obtain ⟨hp, g, d, tk, os⟩ := s; obtain ⟨hl, h⟩ := h
    have hsub := sub_enumerate
    have hL : Heap.IsTuple (Shared.heap ⟨hp, g, d, tk, os⟩) l items := ⟨_, hl, rfl, n, rfl⟩
    wp_walk using wpAny_loadPart' hl
    refine wpAny_stack_any fun st => wpAny_pure ?_
    split
    · rename_i c _ _ _ _ _
      cases (c == Value.type "enumerate")
      · wp_walk using wpAny_loadPart' hl, wpAny_pyIter_tuple hL
        exact ⟨_, rfl, h⟩
      · wp_walk using wpAny_loadPart' hl, wpAny_pyIter_tuple hL
        exact ⟨_, rfl, h⟩
    · wp_walk using wpAny_loadPart' hl, wpAny_pyIter_tuple hL
      exact ⟨_, rfl, h⟩
section
variable {prog : Program} {w : World} {A : Around} {E : Value → Shared → Prop} {s : Shared}
theorem call_enumerate_tuple {l : Addr} {items : Array Value} {Q : Value → Shared → Prop} (hL : s.heap.IsTuple l items)
    (h : ∀ h', IsEnum h' (s.heap.objs.size + 1) s.heap.objs.size 0 .none → h'.IsTupleIter s.heap.objs.size l 0 → h'.objs.size = s.heap.objs.size + 2 →
      (∀ b o, s.heap.get? b = some o → h'.get? b = some o) → Q (.ref (s.heap.objs.size + 1)) { s with heap := h' }) :
    wpAny (model prog w) A (call (.type "enumerate") [.ref l]) Q E s := by
  obtain ⟨⟨c, dct, dt, sl⟩, hl, hc, n, hd⟩ := hL
  replace hc : c = .type "tuple" := hc
  replace hd : dt = .seq items n := hd
  subst hc hd
  refine callType_new F.called_enumerate (by decide) (F.typeCall_enumerate_1 _) (F.newCall_enumerate_1 _) (fun obj => F.args_object_init_2 obj _) F.entry_enumerate_new
    (meets_enumerate_newT l items n dct sl) ⟨hl, ?_⟩
  have hz : (s.heap.push { cls := .type "tuple_iterator", data := .fields #[.ref l, .int 0 0] }).objs.size = s.heap.objs.size + 1 := Heap.size_push ..
  show _ ∧ _
  rw [hz]
  have he : IsEnum ((s.heap.push { cls := .type "tuple_iterator", data := .fields #[.ref l, .int 0 0] }).push
      { cls := .type "enumerate", data := .fields #[.none, .bool false, .ref s.heap.objs.size, rawInt 0, .none, .none] }) (s.heap.objs.size + 1) s.heap.objs.size 0 .none := by
    have := Heap.get?_push_size (s.heap.push { cls := .type "tuple_iterator", data := .fields #[.ref l, .int 0 0] })
      (o := { cls := .type "enumerate", data := .fields #[.none, .bool false, .ref s.heap.objs.size, rawInt 0, .none, .none] }) rfl
    rw [hz] at this; exact this
  refine ⟨⟨_, he, rfl⟩, h _ he ⟨_, Heap.get?_push_of_some _ (Heap.get?_push_size _ rfl), rfl, rfl⟩ (by rw [Heap.size_push, hz]) fun b o x => Heap.get?_push_of_some _ (Heap.get?_push_of_some _ x)⟩
end
def IteT (K : PySem.W.Frag) (a : Addr) : L2.It :=
  ⟨fun i H => ∃ (xs : List V) (x : V), SqT K H a xs ∧ xs[i]? = some x, fun i H v H' => ∃ T x, v = .ref T ∧ H T = none ∧ H' = upd H T (.tup [.int (i : Nat), x]) ∧ ∀ xs, SqT K H a xs → xs[i]? = some x, fun i H => ∃ xs : List V, SqT K H a xs ∧ xs.length ≤ i⟩
theorem turn_enumT {P : Program} {w : World} {K : PySem.W.Frag} {elts : List Expr} {kk : Nat} {tpos : Pos} (a e it : Addr) :
    Turn P w K (.Tuple elts kk tpos) (IteT K a) [e, it] e (fun i h => (∃ old, IsEnum h e it ((i : Nat) : Int) old) ∧ h.IsTupleIter it a i ∧ e ≠ it ∧ a ≠ it ∧ a ≠ e) where
  mem := by simp
  obj := fun i h st b hb => by
    obtain ⟨⟨old, he⟩, ⟨o, ho, hc, hd⟩, _⟩ := st
    have e' : b = e ∨ b = it := by simpa using hb
    rcases e' with z | z
    · rw [z]; exact ⟨_, he, fun v q => nomatch q⟩
    · rw [z]; exact ⟨o, ho, fun v q => by rw [hd] at q; cases q⟩
  keep := fun i h h' st k => let ⟨⟨old, he⟩, hi, hne⟩ := st; ⟨⟨old, k e (by simp) _ he⟩, hi.at fun o q => k it (by simp) o q, hne⟩
  item := by
    intro X hP hw hK hc i pins s σ H E I hf st hg
    subst hP hw hK
    obtain ⟨⟨old, he⟩, hit, hne, hai, hae⟩ := st
    obtain ⟨xs, x, hq, hx⟩ := hg
    obtain ⟨its, rv, p, hz⟩ := I.tuple hq
    have p : s.heap.IsTuple a its.toArray := p
    obtain ⟨u, hu, ru⟩ := rv.get hx
    have hel : e < s.heap.objs.size := Heap.lt_size he
    have hil : it < s.heap.objs.size := by obtain ⟨_, q, _⟩ := hit; exact Heap.lt_size q
    have hi : i < its.toArray.size := by
      have := (List.getElem?_eq_some_iff.mp hu).1
      simpa using this
    have D := draws_tuple (prog := X.prog) (w := X.w) (A := X.A.in1) (I.ok.hd hc) it a hai its.toArray
    refine wpAny_pyNext_enum_itemD D he ⟨hit, p⟩ hi hne (by simp [hne, Ne.symm hae]) fun y h' tk hy ho hst hT hsz hk => ?_
    obtain ⟨hit', _⟩ := hst
    have ey : y = u := by
      have h1 : its.toArray[i]? = some u := by simpa using hu
      rw [h1] at hy
      exact (Option.some.inj hy).symm
    subst ey
    refine ⟨_, rfl, wpAny_letOwnedTupleGo_enum (s := { s with heap := h', toks := tk + 1 }) ho fun h'' he' sb => ?_⟩
    have hT2 : h''.get? s.heap.objs.size = some { cls := .type "tuple", data := .seq #[.int i tk, y] } := (sb.2 _ (Nat.ne_of_gt hel)).trans hT
    have new : ObjOk X.prog X.w (upd H s.heap.objs.size (.tup [.int (i : Nat), x])) h'' s.heap.objs.size (.tup [.int (i : Nat), x]) :=
      ⟨by show 2 ≤ sizeLine; decide, [.int i tk, y], .cons ⟨_, rfl⟩ (.cons ru .nil), ⟨_, hT2, rfl, _, rfl⟩⟩
    have I1 : Inv X pins σ (upd H s.heap.objs.size (.tup [.int (i : Nat), x])) { s with heap := h'', toks := tk + 1 } :=
      I.turnedNew (ch := [e, it]) (fun b ob hb q => (sb.2 b (fun z => hb (by simp [z]))).trans (hk b ob (fun z => hb (by simp [z])) (fun z => hb (by simp [z])) q)) hf (Nat.le_refl _) new
    refine ⟨.ref s.heap.objs.size, _, I1, rfl, ⟨_, x, rfl, I.hok.fresh (Nat.le_refl _), rfl, fun ys hy => by rw [I.tuple_inj hy hq]; exact hx⟩, ⟨⟨y, ?_⟩, hit'.at fun o q => (sb.2 it (Ne.symm hne)).trans q, hne, hai, hae⟩, fun b hb => ?_⟩
    · have e1 : ((i + 1 : Nat) : Int) = (i : Int) + 1 := by omega
      rw [e1]; exact he'
    · have hb' : b < s.heap.objs.size := by
        have e' : b = e ∨ b = it := by simpa using hb
        rcases e' with z | z
        · rw [z]; exact hel
        · rw [z]; exact hil
      rw [upd_ne (Nat.ne_of_lt hb')]
      exact (hf b hb).1
  done := by
    intro X hP hw hK hc i pins s σ H E I hf st hg
    subst hP hw hK
    obtain ⟨⟨old, he⟩, hit, hne, hai, hae⟩ := st
    obtain ⟨xs, hq, hx⟩ := hg
    obtain ⟨its, rv, p, hz⟩ := I.tuple hq
    have p : s.heap.IsTuple a its.toArray := p
    obtain ⟨f0, f1, f2, f3, f4, f5⟩ := hf it (by simp)
    have hl := rv.length
    have D := draws_tuple (prog := X.prog) (w := X.w) (A := X.A.in1) (I.ok.hd hc) it a hai its.toArray
    have hT : s.TypeIs (.ref e) "enumerate" := ⟨_, he, rfl⟩
    unfold pyNext
    refine wpAny_bind (wpAny_attempt (wpAny_callSpecial?_slot (name := Str.ofString "__next__") hT F.slot_enumerate_next
      (wpAny_call_entry F.slot_enumerate_next hT F.entry_enumerate_next ?_ (F.args_enumerate_next_1 _))))
    show wpAny _ _ (field (.ref e) 2 >>= _) _ _ _
    refine wpAny_bind (wpAny_field he rfl (x := .ref it) rfl ?_)
    refine wpAny_bind (nextOf_tuple_end (I.ok.hd hc) hit p (by simp; omega) fun h' x he' hx' => ?_)
    obtain ⟨o, ho, hc'⟩ := hx'
    refine wpAny_bind (wpAny_isInstance (T := "StopIteration") (b := true) ⟨o, ho, hc'⟩ isSubtype_stop ?_)
    exact wpAny_pure ⟨rfl, I.turned (t' := s.toks) (fun b o hb q => he' b o hb q) f0 f1 f3 f4 f5⟩
  self := fun A i s Q E st h => let ⟨⟨_, he⟩, _⟩ := st; wpAny_pyIter_enum he h
def iEnum2 (K : PySem.W.Frag) (ta : TA) : TI := fun σ H R => ta σ H fun vs H1 => ∃ a xs, vs = [.ref a] ∧ ((SqL K H1 a xs ∧ R (Ite K a) H1) ∨ (SqT K H1 a xs ∧ R (IteT K a) H1))
theorem pi_enum2 {X : Cx} {e : Expr} {ta : TA} {p pos tpos : Pos} {elts : List Expr} {kk : Nat} (hg : Gl X "enumerate") (hm : X.mg "enumerate" = none) (ha : PA X [e] ta) (hs : starEach [e] X.env = [(false, eval e X.env)] := by rfl) :
    PI X (.Tuple elts kk tpos) (.Call (.Name "enumerate" p) [e] [] pos) (iEnum2 X.K ta) := by
  intro pins s σ H R I h
  refine Call_ (ld_blt I hg hm boot_enumerate (PyProof.Rows.callWith_type1 (thn (ha pos pins s σ H _ I h) fun us s1 ⟨vs, H1, I1, r1, q1⟩ => ?_) hs rfl))
  obtain ⟨a, xs, ex, q⟩ := q1
  subst ex
  have fp : ∀ b ∈ [s1.heap.objs.size + 1, s1.heap.objs.size], s1.heap.objs.size ≤ b := fun b hb => by
    have e' : b = s1.heap.objs.size + 1 ∨ b = s1.heap.objs.size := by simpa using hb
    rcases e' with z | z
    · rw [z]; exact Nat.le_add_right _ _
    · rw [z]; exact Nat.le_refl _
  cases r1 with
  | cons r rr =>
    cases rr
    cases r
    rcases q with ⟨hq, q⟩ | ⟨hq, q⟩
    · obtain ⟨its, rv, p', hz⟩ := I1.list hq
      refine call_enumerate_list p'.isList fun h' he hit hsz hk => wpAny_pyIter_enum he ?_
      have I2 : Inv X pins σ H1 { s1 with heap := h' } := I1.kept (t' := s1.toks) hk
      exact ⟨s1.heap.objs.size + 1, [s1.heap.objs.size + 1, s1.heap.objs.size], _, _, H1, rfl, I2, turn_enum a (s1.heap.objs.size + 1) s1.heap.objs.size, ⟨⟨.none, he⟩, hit, Nat.succ_ne_self _⟩, fun b hb => I1.fpOk (fp b hb) (I1.hok.fresh (fp b hb)), q⟩
    · obtain ⟨its, rv, p', hz⟩ := I1.tuple hq
      have p' : s1.heap.IsTuple a its.toArray := p'
      have hal : a < s1.heap.objs.size := by obtain ⟨_, q, _⟩ := p'; exact Heap.lt_size q
      refine call_enumerate_tuple p' fun h' he hit hsz hk => wpAny_pyIter_enum he ?_
      have I2 : Inv X pins σ H1 { s1 with heap := h' } := I1.kept (t' := s1.toks) hk
      exact ⟨s1.heap.objs.size + 1, [s1.heap.objs.size + 1, s1.heap.objs.size], _, _, H1, rfl, I2, turn_enumT a (s1.heap.objs.size + 1) s1.heap.objs.size, ⟨⟨.none, he⟩, hit, Nat.succ_ne_self _, Nat.ne_of_lt hal, Nat.ne_of_lt (Nat.lt_succ_of_lt hal)⟩, fun b hb => I1.fpOk (fp b hb) (I1.hok.fresh (fp b hb)), q⟩
end Nf
set_option linter.all false
set_option maxRecDepth 100000
set_option autoImplicit false
set_option maxHeartbeats 4000000
namespace Nf
open PySem L2 PySem.Spec PyProof.Rows
theorem locn_ok {N : List Str} {sc : Scope} {i : Nat} {x : Str} (h : locn N sc i x = true) : N[i]? = some x ∧ Loc sc x := by
  obtain ⟨h1, h2⟩ := a2 h
  refine ⟨beq_iff_eq.mp h1, ?_⟩
  rcases Bool.or_eq_true_iff.mp h2 with z | z
  · exact .inl (beq_iff_eq.mp z)
  · exact .inr (beq_iff_eq.mp z)
section
variable {P : Px}
def gTg (K : PySem.W.Frag) : Tg → TG
  | .name i => gName i
  | .tup l => gTup K l.length (gL l)
theorem put_tg {t : Tg} {H : Hp} {F : Fz} {Q : L2.St → Hp → Prop} {v : V} {d : D} {σ : L2.St} {s s' : En} (l : Rl P H F σ s) (r : P.rp H F v d) (e : putT t d s = some s') (k : ∀ σ', Rl P H F σ' s' → Q σ' H) :
    (gTg P.X.K t) v σ H Q := by
  cases t with
  | name i =>
    cases e
    exact k _ (l.set r)
  | tup is =>
    cases r with
    | @tup a xs ds hl hr =>
      have e : putL is ds s = some s' := e
      have hlen : is.length = ds.length := by
        have gen : ∀ {is : List Nat} {ds : List D} {s s' : En}, putL is ds s = some s' → is.length = ds.length := by
          intro is
          induction is with
          | nil => intro ds s s' e; cases ds with
            | nil => rfl
            | cons _ _ => cases e
          | cons i r ih => intro ds s s' e; cases ds with
            | nil => cases e
            | cons d ds => exact congrArg (· + 1) (ih e)
        exact gen e
      exact ⟨a, xs, rfl, hl.sq, by rw [hr.length, hlen], gL_put l hr e k⟩
    | _ => cases e
theorem rngOk_ok {i : Int} (h : rngOk i = true) : -(2 ^ 62) ≤ i ∧ i < 2 ^ 62 := by
  have e : (2 : Int) ^ 62 = 4611686018427387904 := by decide
  have h : i.natAbs < 4611686018427387904 := Nat.blt_eq.mp h
  rw [e]
  omega
def iSeq (K : PySem.W.Frag) (tl : TE) : TI := fun σ H R => tl σ H fun x H1 => ∃ a, x = .ref a ∧ (((∃ xs, SqL K H1 a xs) ∧ R (Itl K a) H1) ∨ ((∃ xs, SqT K H1 a xs) ∧ R (Itt K a) H1))
theorem pi_seq {X : Cx} {tg l : Expr} {tl : TE} (hl : PE X l tl) : PI X tg l (iSeq X.K tl) := by
  intro pins s σ H R I h
  refine thn (hl pins s σ H _ I h) fun v s1 ⟨x, H1, I1, r1, q1⟩ => ?_
  obtain ⟨a, e, q⟩ := q1
  subst e
  cases r1
  rcases q with ⟨⟨xs, hq⟩, q⟩ | ⟨⟨xs, hq⟩, q⟩
  · obtain ⟨its, rv, p, hz⟩ := I1.list hq
    refine wpAny_pyIter_list p.isList ?_
    refine ⟨s1.heap.objs.size, [s1.heap.objs.size], _, _, H1, rfl, I1.kept (t' := s1.toks) fun b o e => Heap.get?_push_of_some _ e, turn_list a _, ⟨_, Heap.get?_push_size _ rfl, rfl, rfl⟩, fun b hb => ?_, q⟩
    have e : b = s1.heap.objs.size := by simpa using hb
    subst e
    exact I1.fpOk (Nat.le_refl _) (I1.hok.fresh (Nat.le_refl _))
  · obtain ⟨its, rv, p, hz⟩ := I1.tuple hq
    refine wpAny_pyIter_tuple (show s1.heap.IsTuple a its.toArray from p) ?_
    refine ⟨s1.heap.objs.size, [s1.heap.objs.size], _, _, H1, rfl, I1.kept (t' := s1.toks) fun b o e => Heap.get?_push_of_some _ e, turn_tuple a _, ⟨_, Heap.get?_push_size _ rfl, rfl, rfl⟩, fun b hb => ?_, q⟩
    have e : b = s1.heap.objs.size := by simpa using hb
    subst e
    exact I1.fpOk (Nat.le_refl _) (I1.hok.fresh (Nat.le_refl _))
theorem rngL_len : ∀ (n : Nat) (lo : Int), (rngL lo n).length = n
  | 0, _ => rfl
  | n + 1, lo => by show (rngL (lo + 1) n).length + 1 = n + 1; rw [rngL_len n]
theorem rngL_get : ∀ (n : Nat) (lo : Int) (i : Nat), i < n → (rngL lo n)[i]? = some (.int (lo + i))
  | 0, _, _, h => by omega
  | n + 1, lo, 0, _ => by show some (D.int lo) = _; simp
  | n + 1, lo, i + 1, h => by
    show (rngL (lo + 1) n)[i]? = _
    rw [rngL_get n (lo + 1) i (by omega)]
    congr 2
    push_cast
    omega
structure Gives (P : Px) (J : L2.It) (ds : List D) (H : Hp) (F : Fz) : Prop where
  go : ∀ (i : Nat) (d : D) (H' : Hp) (F' : Fz), Keep H F H' F' → (∀ a, F' a → ∃ o, H' a = some o) → ds[i]? = some d → J.go i H' ∧ ∀ x H2, J.yld i H' x H2 → ∃ F2, Grow H' F' H2 F2 ∧ P.rp H2 F2 x d
  stop : ∀ (H' : Hp) (F' : Fz), Keep H F H' F' → J.stop ds.length H'
theorem gives_list {a : Addr} {xs : List V} {ds : List D} {H : Hp} {F : Fz} (h : LF P.X.K H F a xs) (r : P.rps H F xs ds) : Gives P (Itl P.X.K a) ds H F := by
  refine ⟨fun i d H' F' k dm e => ?_, fun H' F' k => ⟨xs, (h.keep k).sq, by rw [r.length]; exact Nat.le_refl _⟩⟩
  obtain ⟨v, e1, rv⟩ := (r.keep k).get e
  refine ⟨⟨xs, v, (h.keep k).sq, e1⟩, fun x H2 ⟨e2, y⟩ => ⟨F', by rw [e2]; exact Grow.refl dm, ?_⟩⟩
  subst e2
  have := y xs (h.keep k).sq
  rw [e1] at this
  cases this
  exact rv
theorem gives_tup {a : Addr} {xs : List V} {ds : List D} {H : Hp} {F : Fz} (h : TF P.X.K H F a xs) (r : P.rps H F xs ds) : Gives P (Itt P.X.K a) ds H F := by
  refine ⟨fun i d H' F' k dm e => ?_, fun H' F' k => ⟨xs, (h.keep k).sq, by rw [r.length]; exact Nat.le_refl _⟩⟩
  obtain ⟨v, e1, rv⟩ := (r.keep k).get e
  refine ⟨⟨xs, v, (h.keep k).sq, e1⟩, fun x H2 ⟨e2, y⟩ => ⟨F', by rw [e2]; exact Grow.refl dm, ?_⟩⟩
  subst e2
  have := y xs (h.keep k).sq
  rw [e1] at this
  cases this
  exact rv
theorem gives_rev {a : Addr} {xs : List V} {ds : List D} {H : Hp} {F : Fz} (h : LF P.X.K H F a xs) (r : P.rps H F xs ds) : Gives P (Itv P.X.K a xs.length) ds.reverse H F := by
  have hl : xs.length = ds.length := r.length
  refine ⟨fun i d H' F' k dm e => ?_, fun H' F' k => by show xs.length ≤ ds.reverse.length; rw [List.length_reverse, hl]; exact Nat.le_refl _⟩
  have hi : i < ds.length := by
    have := (List.getElem?_eq_some_iff.mp e).1
    rw [List.length_reverse] at this; exact this
  rw [List.getElem?_reverse hi] at e
  obtain ⟨v, e1, rv⟩ := (r.keep k).get e
  rw [← hl] at e1
  refine ⟨⟨by rw [hl]; exact hi, xs, v, (h.keep k).sq, e1⟩, fun x H2 ⟨e2, y⟩ => ⟨F', by rw [e2]; exact Grow.refl dm, ?_⟩⟩
  subst e2
  have := y xs (h.keep k).sq
  rw [e1] at this
  cases this
  exact rv
theorem rngC_len (c : Int) : ∀ (n : Nat) (lo : Int), (rngC lo c n).length = n
  | 0, _ => rfl
  | n + 1, lo => by show (rngC (lo + c) c n).length + 1 = n + 1; rw [rngC_len c n]
theorem rngC_get (c : Int) : ∀ (n : Nat) (lo : Int) (i : Nat), i < n → (rngC lo c n)[i]? = some (.int (lo + (i : Nat) * c))
  | 0, _, _, h => absurd h (Nat.not_lt_zero _)
  | n + 1, lo, 0, _ => by simp [rngC]
  | n + 1, lo, i + 1, h => by
    show (rngC (lo + c) c n)[i]? = _
    rw [rngC_get c n (lo + c) i (by omega)]
    congr 2
    rw [show ((i + 1 : Nat) : Int) = (i : Int) + 1 from rfl, Int.add_mul]
    omega
theorem gives_rngC {lo c : Int} {n : Nat} {H : Hp} {F : Fz} : Gives P (Itc lo c n) (rngC lo c n) H F := by
  refine ⟨fun i d H' F' k dm e => ?_, fun H' F' k => by rw [rngC_len]; exact Nat.le_refl _⟩
  have hi : i < n := by
    have := (List.getElem?_eq_some_iff.mp e).1
    rw [rngC_len] at this; exact this
  rw [rngC_get c n lo i hi] at e
  cases e
  refine ⟨hi, fun x H2 ⟨e2, y⟩ => ⟨F', by rw [e2]; exact Grow.refl dm, ?_⟩⟩
  subst e2
  subst y
  exact .int _
theorem gives_rng {lo : Int} {n : Nat} {H : Hp} {F : Fz} : Gives P (Itr lo n) (rngL lo n) H F := by
  refine ⟨fun i d H' F' k dm e => ?_, fun H' F' k => by rw [rngL_len]; exact Nat.le_refl _⟩
  have hi : i < n := by
    have := (List.getElem?_eq_some_iff.mp e).1
    rw [rngL_len] at this; exact this
  rw [rngL_get n lo i hi] at e
  cases e
  refine ⟨hi, fun x H2 ⟨e2, y⟩ => ⟨F', by rw [e2]; exact Grow.refl dm, ?_⟩⟩
  subst e2
  subst y
  exact .int _
theorem enmL_len : ∀ (l : List D) (i : Int), (enmL i l).length = l.length
  | [], _ => rfl
  | _ :: r, i => by show (enmL (i + 1) r).length + 1 = r.length + 1; rw [enmL_len r]
theorem enmL_get : ∀ (l : List D) (j : Int) (i : Nat) (d : D), (enmL j l)[i]? = some d → ∃ d0, l[i]? = some d0 ∧ d = .tup [.int (j + (i : Nat)), d0]
  | [], _, _, _, h => by simp [enmL] at h
  | x :: r, j, 0, d, h => by
    have h : some (D.tup [.int j, x]) = some d := h
    cases h
    exact ⟨x, rfl, by simp⟩
  | x :: r, j, i + 1, d, h => by
    have h : (enmL (j + 1) r)[i]? = some d := h
    obtain ⟨d0, e1, e2⟩ := enmL_get r (j + 1) i d h
    refine ⟨d0, e1, ?_⟩
    rw [e2]
    congr 3
    push_cast
    omega
theorem tup_new {H : Hp} {F : Fz} {T : Addr} {xs : List V} {ds : List D} (dm : ∀ a, F a → ∃ o, H a = some o) (n : H T = none) (r : P.rps H F xs ds) : Grow H F (upd H T (.tup xs)) (fun a => F a ∨ a = T) ∧ P.rp (upd H T (.tup xs)) (fun a => F a ∨ a = T) (.ref T) (.tup ds) := by
  have g := grow_new (o := .tup xs) dm n
  exact ⟨g, .tup (.inl ⟨.inr rfl, .inl upd_same⟩) (r.grow g)⟩
theorem gives_enumT {a : Addr} {xs : List V} {ds : List D} {H : Hp} {F : Fz} (h : TF P.X.K H F a xs) (r : P.rps H F xs ds) : Gives P (IteT P.X.K a) (enmL 0 ds) H F := by
  refine ⟨fun i d H' F' k dm e => ?_, fun H' F' k => ⟨xs, (h.keep k).sq, by rw [enmL_len, r.length]; exact Nat.le_refl _⟩⟩
  obtain ⟨d0, e0, ed⟩ := enmL_get ds 0 i d e
  obtain ⟨v, e1, rv⟩ := (r.keep k).get e0
  refine ⟨⟨xs, v, (h.keep k).sq, e1⟩, fun x H2 ⟨T, y, ex, hT, e2, hy⟩ => ?_⟩
  have := hy xs (h.keep k).sq
  rw [e1] at this
  cases this
  rw [ex, e2, ed, Int.zero_add]
  obtain ⟨g, q⟩ := tup_new (P := P) dm hT (.cons (.int ((i : Nat) : Int)) (.cons rv .nil))
  exact ⟨_, g, q⟩
theorem gives_enumL {a : Addr} {xs : List V} {ds : List D} {H : Hp} {F : Fz} (h : LF P.X.K H F a xs) (r : P.rps H F xs ds) : Gives P (Ite P.X.K a) (enmL 0 ds) H F := by
  refine ⟨fun i d H' F' k dm e => ?_, fun H' F' k => ⟨xs, (h.keep k).sq, by rw [enmL_len, r.length]; exact Nat.le_refl _⟩⟩
  obtain ⟨d0, e0, ed⟩ := enmL_get ds 0 i d e
  obtain ⟨v, e1, rv⟩ := (r.keep k).get e0
  refine ⟨⟨xs, v, (h.keep k).sq, e1⟩, fun x H2 ⟨T, y, ex, hT, e2, hy⟩ => ?_⟩
  have := hy xs (h.keep k).sq
  rw [e1] at this
  cases this
  rw [ex, e2, ed, Int.zero_add]
  obtain ⟨g, q⟩ := tup_new (P := P) dm hT (.cons (.int ((i : Nat) : Int)) (.cons rv .nil))
  exact ⟨_, g, q⟩
def tI (P : Px) (t : En → RL) : TI := fun σ H R => ∃ F s, Rl P H F σ s ∧ match t s with
  | .ok ds => ∀ J H' F', Grow H F H' F' → Gives P J ds H' F' → R J H'
  | .exn d => P.W d s
  | .bad => False
theorem PI.imp {X : Cx} {tg e : Expr} {t t' : TI} (h : PI X tg e t) (k : ∀ σ H R, t' σ H R → t σ H R) : PI X tg e t' := fun pins s σ H R I q => h pins s σ H R I (k σ H R q)
theorem RQ.bndP {s : En} {H : Hp} {F : Fz} {r : R} {f : Option Int → R} {Q : VK} (h : RQ P s H F (Nf.bndP r f) Q) : RQ P s H F r fun v H' => ∃ F', Grow H F H' F' ∧ ((v = .non ∧ RQ P s H' F' (f none) Q) ∨ ∃ i, v = .int i ∧ RQ P s H' F' (f (some i)) Q) := by
  cases r with
  | ok d =>
    intro v H' F' g r
    refine ⟨F', g, ?_⟩
    cases r with
    | non => exact .inl ⟨rfl, RQ.grow g h⟩
    | int i => exact .inr ⟨i, rfl, RQ.grow g h⟩
    | _ => exact (show False from h).elim
  | own l => exact (show False from h).elim
  | exn d => exact h
  | bad => exact h
def tO (P : Px) (t : En → R) : TO := fun σ H Q => tD P t σ H fun v H' => (v = .non ∧ Q none H') ∨ ∃ i, v = .int i ∧ Q (some i) H'
theorem po_D {e : Expr} {t : En → R} (h : PE P.X e (tD P t)) : PO P.X (some e) (tO P t) := by
  intro pins st σ H Q I hw
  rw [evalPart_some]
  refine thn (h pins st σ H _ I hw) fun u s1 ⟨x, H1, I1, r1, q1⟩ => ?_
  rcases q1 with ⟨rfl, q⟩ | ⟨i, rfl, q⟩
  · cases r1
    exact ⟨none, H1, I1, .none, q⟩
  · obtain ⟨t, rfl⟩ := r1
    exact ⟨some i, H1, I1, .int i t, q⟩
theorem po_N : PO P.X none (tO P fun _ => .ok .non) := by
  intro pins st σ H Q I ⟨F, s, l, q⟩
  refine po_none pins st σ H Q I ?_
  have q : ∀ v H' F', Grow H F H' F' → P.rp H' F' v .non → (v = .non ∧ Q none H') ∨ ∃ i, v = .int i ∧ Q (some i) H' := q
  rcases q .non H F l.self .non with ⟨_, q⟩ | ⟨i, e, _⟩
  · exact q
  · cases e
theorem cutD_rps {K : PySem.W.Frag} {mg : Str → Option Value} {H : Hp} {F : Fz} {vs : List V} {ds : List D} (r : Rps K mg H F vs ds) (lo hi : Option Int) : Rps K mg H F (cutV vs lo hi) (cutD ds lo hi) := by
  have drop : ∀ (n : Nat) {vs : List V} {ds : List D}, Rps K mg H F vs ds → Rps K mg H F (vs.drop n) (ds.drop n) := by
    intro n
    induction n with
    | zero => intro vs ds r; exact r
    | succ n ih => intro vs ds r; cases r with
      | nil => exact .nil
      | cons _ b => exact ih b
  have take : ∀ (n : Nat) {vs : List V} {ds : List D}, Rps K mg H F vs ds → Rps K mg H F (vs.take n) (ds.take n) := by
    intro n
    induction n with
    | zero => intro vs ds r; exact .nil
    | succ n ih => intro vs ds r; cases r with
      | nil => exact .nil
      | cons a b => exact .cons a (ih b)
  unfold cutV cutD
  rw [r.length]
  exact take _ (drop _ r)
theorem grow_lst {H : Hp} {F : Fz} {p : Addr} {vs : List V} (dm : Dm H F) (n : H p = none) : Grow H F (upd H p (.lst vs)) F ∧ ¬ F p := by
  have nf : ¬ F p := fun f => by obtain ⟨o, e⟩ := dm p f; rw [n] at e; cases e
  refine ⟨⟨fun a o e => ?_, fun _ f => f, fun _ _ _ f => f, fun a f => ?_⟩, nf⟩
  · rw [upd_ne (fun z => by rw [z, n] at e; cases e)]; exact e
  · obtain ⟨o, e⟩ := dm a f
    exact ⟨o, by rw [upd_ne (fun z => by rw [z, n] at e; cases e)]; exact e⟩
theorem sl_D {s : En} {H : Hp} {F : Fz} {v : V} {x : D} {lo hi : Option Int} {Q : VK} (dm : Dm H F) (r : P.rp H F v x) (q : RQ P s H F (slcop x lo hi) Q) : rSlL P.X.K v lo hi H Q ∨ rSlS v lo hi H Q := by
  cases r with
  | @lst a xs ds hl hr =>
    refine .inl ⟨a, xs, rfl, hl.sq, fun p hp => ?_⟩
    obtain ⟨g, nf⟩ := grow_lst (vs := cutV xs lo hi) dm hp
    exact q p _ _ F g hp nf upd_same ((cutD_rps hr lo hi).grow g)
  | str z =>
    have q : RQ P s H F (if z.length ≤ sizeLine then .ok (.str (cutS z lo hi)) else .bad) Q := q
    by_cases hz : z.length ≤ sizeLine
    · rw [if_pos hz] at q
      exact .inr ⟨z, rfl, hz, q _ _ _ (Grow.refl dm) (.str _)⟩
    · rw [if_neg hz] at q; exact q.elim
  | _ => exact (show False from q).elim
theorem mt_bitl {X : Cx} : MtR X "int.bit_length" (fun x xs H Q => ∃ i, x = .int i ∧ xs = [] ∧ Q (.int (Builtin.Int.intBits i : Nat)) H) := by
  intro pins st σ H x xs v us Q I rx rxs ⟨i, e1, e2, q⟩
  subst e1 e2
  cases rxs
  obtain ⟨t, rfl⟩ := rx
  exact call_int_bit_length ⟨.int (Builtin.Int.intBits i : Nat), H, I.kept (t' := st.toks + 1) fun b o e => e, ⟨_, rfl⟩, q⟩
theorem bitl_D {s : En} {H : Hp} {F : Fz} {v : V} {x : D} {Q : VK} (dm : Dm H F) (r : P.rp H F v x) (q : RQ P s H F (bitlop x) Q) : tyV P.X.K "int" v H ∧ ∃ i, v = .int i ∧ ([] : List V) = [] ∧ Q (.int (Builtin.Int.intBits i : Nat)) H := by
  cases r with
  | int i => exact ⟨rfl, i, rfl, rfl, q _ _ _ (Grow.refl dm) (.int _)⟩
  | _ => exact (show False from q).elim
theorem cpy_D {s : En} {H : Hp} {F : Fz} {v : V} {x : D} {Q : VK} (dm : Dm H F) (r : P.rp H F v x) (q : RQ P s H F (cpyop x) Q) : ∃ p ys, [v] = [.ref p] ∧ (SqL P.X.K H p ys ∨ SqT P.X.K H p ys) ∧ ∀ l, H l = none → Q (.ref l) (upd H l (.lst ys)) := by
  cases r with
  | @lst a xs ds hl hr =>
    refine ⟨a, xs, rfl, .inl hl.sq, fun p hp => ?_⟩
    obtain ⟨g, nf⟩ := grow_lst (vs := xs) dm hp
    exact q p _ _ F g hp nf upd_same (hr.grow g)
  | @tup a xs ds hl hr =>
    refine ⟨a, xs, rfl, .inr hl.sq, fun p hp => ?_⟩
    obtain ⟨g, nf⟩ := grow_lst (vs := xs) dm hp
    exact q p _ _ F g hp nf upd_same (hr.grow g)
  | _ => exact (show False from q).elim
abbrev inP (P : Px) (H : Hp) (F : Fz) : Px := { P with H0 := H, F0 := F, Hs := H, Fs := F, rz := false, W := fun _ _ => False }
def tIn (P : Px) (t : En → R) : TE := fun σ H Q => ∃ F s, Rl (inP P H F) H F σ s ∧ RQ (inP P H F) s H F (t s) Q
def NoOwn (s : En) : Prop := ∀ (i : Nat) (x : Sl), s[i]? = some x → x.mine = true → False
theorem cln_get : ∀ (s : En) (i : Nat), (cln s)[i]? = (s[i]?).map fun x => match x with | .own _ => .no | .dic _ _ => .no | x => x
  | [], i => rfl
  | x :: s, 0 => by cases x <;> rfl
  | x :: s, i + 1 => by
    have := cln_get s i
    cases x <;> simpa [cln] using this
theorem cln_len : ∀ s : En, (cln s).length = s.length
  | [] => rfl
  | x :: s => by cases x <;> (show (cln s).length + 1 = s.length + 1; rw [cln_len s])
theorem cln_no (s : En) : NoOwn (cln s) := fun i l e hm => by
  rw [cln_get] at e
  cases h : s[i]? with
  | none => rw [h] at e; cases e
  | some x => rw [h] at e; cases x <;> cases e <;> cases hm
theorem NoOwn.set {s : En} {i : Nat} {x : Sl} (h : NoOwn s) (hx : x.mine = true → False) : NoOwn (s.set i x) := fun j l e hm => by
  by_cases hj : i = j
  · subst hj
    by_cases hl : i < s.length
    · rw [List.getElem?_set_self hl] at e; cases e; exact hx hm
    · rw [List.getElem?_eq_none_iff.mpr (by rw [List.length_set]; omega)] at e; cases e
  · rw [List.getElem?_set_ne hj] at e; exact h j l e hm
theorem wip_no {s : En} (h : NoOwn s) : ∀ l : List Nat, NoOwn (wip s l)
  | [] => h
  | i :: r => (wip_no h r).set fun z => by cases z
theorem putL_no : ∀ {is : List Nat} {ds : List D} {s s' : En}, NoOwn s → putL is ds s = some s' → NoOwn s'
  | [], [], s, s', h, e => by cases e; exact h
  | [], _ :: _, _, _, _, e => by cases e
  | _ :: _, [], _, _, _, e => by cases e
  | i :: r, d :: ds, s, s', h, e => putL_no (h.set fun z => by cases z) e
theorem putT_no {t : Tg} {d : D} {s s' : En} (h : NoOwn s) (e : putT t d s = some s') : NoOwn s' := by
  cases t with
  | name i => cases e; exact h.set fun z => by cases z
  | tup l =>
    cases d with
    | tup ds => exact putL_no h e
    | _ => cases e
theorem Rl.re {H H' : Hp} {F F' : Fz} {σ : L2.St} {s : En} {P' : Px} (l : Rl P' H F σ s) (hX : P'.X.K = P.X.K ∧ P'.X.mg = P.X.mg ∧ P'.T = P.T) (n : NoOwn s) (g : Grow H F H' F') : Rl (inP P H' F') H' F' σ s := by
  refine ⟨Grow.refl g.dom, l.len, fun i x e => ?_, fun i j p a m e1 _ y1 _ _ _ => (n i a e1 y1).elim, Keep.refl _ _, by have := l.tb; rw [hX.2.2] at this; exact this.same g.same⟩
  obtain ⟨o, e1, q⟩ := l.slot i x e
  refine ⟨o, e1, ?_⟩
  cases x with
  | no => trivial
  | val d =>
    obtain ⟨v, e2, q⟩ := q
    refine ⟨v, e2, ?_⟩
    have q : Rp P'.X.K P'.X.mg H F v d := q
    rw [hX.1, hX.2.1] at q
    exact q.grow g
  | own m => exact (n i _ e rfl).elim
  | dic ks m => exact (n i _ e rfl).elim
theorem Rl.cln {H : Hp} {F : Fz} {σ : L2.St} {s : En} (l : Rl P H F σ s) : Rl P H F σ (Nf.cln s) := by
  refine ⟨l.g, by rw [cln_len]; exact l.len, fun i x e => ?_, fun i j p a m e1 _ y1 _ _ _ => (cln_no s i a e1 y1).elim, l.kp, l.tb⟩
  rw [cln_get] at e
  obtain ⟨y, e1, e2⟩ := Option.map_eq_some_iff.mp e
  obtain ⟨o, e3, q⟩ := l.slot i y e1
  refine ⟨o, e3, ?_⟩
  subst e2
  cases y with
  | no => trivial
  | val d => exact q
  | own m => trivial
  | dic ks m => trivial
theorem Rl.drp {H : Hp} {F : Fz} {σ : L2.St} {s : En} {i : Nat} {o : Option V} (l : Rl P H F σ s) (n : NoOwn s) : Rl P H F (σ.set i o) (s.set i .no) := by
  refine ⟨l.g, by rw [List.length_set, List.length_set]; exact l.len, fun j x e => ?_, fun j k p a m e1 _ y1 _ _ _ => ((n.set fun z => by cases z) j a e1 y1).elim, l.kp, l.tb⟩
  by_cases hj : i = j
  · subst hj
    have hl : i < s.length := by have := (List.getElem?_eq_some_iff.mp e).1; rw [List.length_set] at this; exact this
    rw [List.getElem?_set_self hl] at e
    cases e
    exact ⟨o, List.getElem?_set_self (by rw [l.len]; exact hl), trivial⟩
  · rw [List.getElem?_set_ne hj] at e ⊢
    exact l.slot j x e
theorem Rl.wip {H : Hp} {F : Fz} {σ : L2.St} {s : En} (l : Rl P H F σ s) (n : NoOwn s) : ∀ is : List Nat, Rl P H F (wipe σ is) (Nf.wip s is)
  | [] => l
  | i :: r => (Rl.wip l n r).drp (wip_no n r)
theorem wipe_get (σ : L2.St) : ∀ (vs : List Nat) (k : Nat), (wipe σ vs)[k]? = if k ∈ vs then (if k < σ.length then some none else none) else σ[k]?
  | [], k => by simp [wipe]
  | v :: vs, k => by
    show ((wipe σ vs).set v none)[k]? = _
    by_cases hv : v = k
    · subst hv
      by_cases hl : v < σ.length
      · rw [List.getElem?_set_self (by rw [wipe_length]; exact hl)]; simp [hl]
      · rw [List.getElem?_eq_none_iff.mpr (by rw [List.length_set, wipe_length]; omega)]; simp [hl]
    · rw [List.getElem?_set_ne hv, wipe_get σ vs k]
      have : k ∈ v :: vs ↔ k ∈ vs := by simp [Ne.symm hv]
      simp only [this]
theorem wipe_set {σ : L2.St} {vs : List Nat} {i : Nat} {o : Option V} (h : i ∈ vs) : wipe (σ.set i o) vs = wipe σ vs := by
  apply List.ext_getElem?
  intro k
  rw [wipe_get, wipe_get, List.length_set]
  by_cases hk : k ∈ vs
  · simp only [hk, if_true]
  · simp only [hk, if_false]
    exact List.getElem?_set_ne fun z => hk (by rw [← z]; exact h)
theorem wipe_wipe {σ : L2.St} {vs : List Nat} : wipe (wipe σ vs) vs = wipe σ vs := by
  apply List.ext_getElem?
  intro k
  rw [wipe_get, wipe_get, wipe_length]
  by_cases hk : k ∈ vs <;> simp only [hk, if_true, if_false]
theorem gL_putW {H : Hp} {F : Fz} {Q : L2.St → Hp → Prop} {ix : List Nat} : ∀ {is : List Nat} {vs : List V} {ds : List D} {σ : L2.St} {s s' : En}, (∀ i ∈ is, i ∈ ix) → Rl P H F σ s → P.rps H F vs ds → putL is ds s = some s' → (∀ σ', Rl P H F σ' s' → wipe σ' ix = wipe σ ix → Q σ' H) → gL is vs σ H Q
  | [], [], [], σ, s, s', _, l, _, e, k => by cases e; exact ⟨rfl, k σ l rfl⟩
  | [], _ :: _, [], _, _, _, _, _, r, _, _ => by cases r
  | [], _, _ :: _, _, _, _, _, _, _, e, _ => by cases e
  | i :: is, _, [], _, _, _, _, _, _, e, _ => by cases e
  | i :: is, [], _ :: _, _, _, _, _, _, r, _, _ => by cases r
  | i :: is, v :: vs, d :: ds, σ, s, s', hx, l, r, e, k => by
    cases r with
    | cons r1 r2 => exact ⟨v, vs, rfl, gL_putW (fun j hj => hx j (List.mem_cons_of_mem _ hj)) (l.set r1) r2 e fun σ' l' w => k σ' l' (by rw [w, wipe_set (hx i (List.mem_cons_self ..))])⟩
theorem putL_len : ∀ {is : List Nat} {ds : List D} {s s' : En}, putL is ds s = some s' → is.length = ds.length
  | [], [], _, _, _ => rfl
  | [], _ :: _, _, _, e => by cases e
  | _ :: _, [], _, _, e => by cases e
  | _ :: _, _ :: _, _, _, e => congrArg (· + 1) (putL_len e)
theorem put_tgW {t : Tg} {H : Hp} {F : Fz} {Q : L2.St → Hp → Prop} {v : V} {d : D} {σ : L2.St} {s s' : En} (l : Rl P H F σ s) (r : P.rp H F v d) (e : putT t d s = some s') (k : ∀ σ', Rl P H F σ' s' → wipe σ' t.ix = wipe σ t.ix → Q σ' H) :
    (gTg P.X.K t) v σ H Q := by
  cases t with
  | name i =>
    cases e
    exact k _ (l.set r) (wipe_set (List.mem_cons_self ..))
  | tup is =>
    cases r with
    | @tup a xs ds hl hr =>
      have e : putL is ds s = some s' := e
      exact ⟨a, xs, rfl, hl.sq, by rw [hr.length, putL_len e], gL_putW (ix := is) (fun _ h => h) l hr e k⟩
    | _ => cases e
def tB' (t : TE) : TT := fun σ H Q => t σ H fun v H' => ∃ c, v = .bl c ∧ Q c H'
theorem lc_D {t : Tg} {it : En → RL} {test elt : En → R} {σ : L2.St} {H : Hp} {Q : VK} {own : List Nat} (ho : own = t.ix) (h : tD P (fun s => bndL (it s) fun xs => lcL t test elt (Nf.wip (Nf.cln s) t.ix) xs []) σ H Q) :
    tLc (tI P it) (gTg P.X.K t) (tB' (tIn P test)) (tIn P elt) own σ H Q := by
  subst ho
  obtain ⟨F, s, l, q⟩ := h
  have q : RQ P s H F (bndL (it s) fun xs => lcL t test elt (Nf.wip (Nf.cln s) t.ix) xs []) Q := q
  refine ⟨F, s, l, ?_⟩
  cases eit : it s with
  | exn d => rw [eit] at q; exact q
  | bad => rw [eit] at q; exact q
  | ok xs =>
    rw [eit] at q
    have q : RQ P s H F (lcL t test elt (Nf.wip (Nf.cln s) t.ix) xs []) Q := q
    intro J H1 F1 g1 gv D hD
    have hHD : H D = none := g1.same.free hD
    have hn0 : NoOwn (Nf.wip (Nf.cln s) t.ix) := wip_no (cln_no s) _
    have up : ∀ {H2 : Hp} {F2 : Fz} {vs : List V}, Grow H F H2 F2 → Keep H1 F1 H2 F2 → ¬ F2 D → Grow H F (upd H2 D (.lst vs)) F2 ∧ Keep H1 F1 (upd H2 D (.lst vs)) F2 ∧ Keep H2 F2 (upd H2 D (.lst vs)) F2 := fun {H2 F2 vs} g k nf => by
      refine ⟨⟨fun a o e => ?_, g.sub, g.old, fun a f => ?_⟩, ⟨fun a o f e => ?_, k.sub⟩, ⟨fun a o f e => ?_, fun _ f => f⟩⟩
      · rw [upd_ne (fun z => by rw [z, hHD] at e; cases e)]; exact g.same a o e
      · obtain ⟨o, e⟩ := g.dom a f
        exact ⟨o, by rw [upd_ne (fun z => nf (by rw [← z]; exact f))]; exact e⟩
      · rw [upd_ne (fun z => by rw [z, hD] at e; cases e)]; exact k.at' a o f e
      · rw [upd_ne (fun z => nf (by rw [← z]; exact f))]; exact e
    have nf1 : ¬ F1 D := fun f => by obtain ⟨o, e⟩ := g1.dom D f; rw [hD] at e; cases e
    let Inv' : Nat → Hp → Prop := fun i H' => ∃ F' acc vs, Grow H F H' F' ∧ Keep H1 F1 H' F' ∧ H' D = some (.lst vs) ∧ ¬ F' D ∧ P.rps H' F' vs acc ∧ RQ P s H F (lcL t test elt (Nf.wip (Nf.cln s) t.ix) (xs.drop i) acc) Q
    refine ⟨fun i m H' => m = xs.length - i ∧ i ≤ xs.length ∧ Inv' i H', ⟨xs.length, by simp, Nat.zero_le _, F1, [], [], (up g1 (Keep.refl _ _) nf1).1, (up g1 (Keep.refl _ _) nf1).2.1, upd_same, nf1, .nil, q⟩, ?_⟩
    rintro i m H' ⟨rfl, hi, F', acc, vs, g', k', eD, nf, rv, q'⟩
    by_cases hlt : i < xs.length
    · have hd : xs.drop i = xs[i] :: xs.drop (i + 1) := List.drop_eq_getElem_cons hlt
      obtain ⟨go, y⟩ := gv.go i _ H' F' k' g'.dom (List.getElem?_eq_getElem hlt)
      rw [hd] at q'
      have q' : RQ P s H F (lcO (putT t xs[i] (Nf.wip (Nf.cln s) t.ix)) fun s1 => lcB (test s1) (elt s1) acc (lcL t test elt (Nf.wip (Nf.cln s) t.ix) (xs.drop (i + 1)))) Q := q'
      refine .inr ⟨go, Inv' (i + 1), fun H2 w => ⟨xs.length - (i + 1), by omega, rfl, hlt, w⟩, fun x H2 yx => ?_⟩
      obtain ⟨F2, gy, r⟩ := y x H2 yx
      replace nf : ¬ F2 D := fun f => nf (gy.old _ _ eD f)
      replace g' := g'.trans gy
      replace k' := k'.trans gy.keep
      replace eD := gy.same _ _ eD
      replace rv := rv.grow gy
      cases ep : putT t xs[i] (Nf.wip (Nf.cln s) t.ix) with
      | none => rw [ep] at q'; exact (show False from q').elim
      | some s1 =>
        rw [ep] at q'
        have q' : RQ P s H F (lcB (test s1) (elt s1) acc (lcL t test elt (Nf.wip (Nf.cln s) t.ix) (xs.drop (i + 1)))) Q := q'
        have n1 : NoOwn s1 := putT_no hn0 ep
        have l0 : Rl (inP P H2 F2) H2 F2 (wipe σ t.ix) (Nf.wip (Nf.cln s) t.ix) := Rl.re (P' := P) ((l.cln).wip (cln_no s) _) ⟨rfl, rfl, rfl⟩ hn0 g'
        refine put_tgW (P := inP P H2 F2) l0 r ep fun σ2 l2 w2 => ⟨by rw [w2, wipe_wipe], F2, s1, l2, ?_⟩
        cases et : test s1 with
        | ok d =>
          rw [et] at q'
          intro v H3 F3 g3 r3
          have g3' := g'.trans g3
          have k3 := k'.trans g3.keep
          have eD3 := g3.same _ _ eD
          have nf3 : ¬ F3 D := fun f => nf (g3.old _ _ eD f)
          have rv3 := rv.grow g3
          cases r3 with
          | bl c =>
            refine ⟨c, rfl, ?_⟩
            cases c with
            | false =>
              simp only [Bool.false_eq_true, if_false]
              exact ⟨F3, acc, vs, g3', k3, eD3, nf3, rv3, q'⟩
            | true =>
              simp only [if_true]
              have l3 : Rl (inP P H3 F3) H3 F3 σ2 s1 := Rl.re (P' := inP P H2 F2) l2 ⟨rfl, rfl, rfl⟩ n1 g3
              refine ⟨F3, s1, l3, ?_⟩
              have put : ∀ {yv : V} {d : Nf.D} {H4 : Hp} {F4 : Fz}, Grow H3 F3 H4 F4 → ¬ F4 D → P.rp H4 F4 yv d → RQ P s H F (if acc.length < sizeLine then lcL t test elt (Nf.wip (Nf.cln s) t.ix) (xs.drop (i + 1)) (acc ++ [d]) else .bad) Q →
                  ∃ acc', H4 D = some (.lst acc') ∧ acc'.length < sizeLine ∧ Inv' (i + 1) (upd H4 D (.lst (acc' ++ [yv]))) := fun {yv d H4 F4} g4 nf4 r4 q4 => by
                by_cases hz : acc.length < sizeLine
                · rw [if_pos hz] at q4
                  obtain ⟨u1, u2, u3⟩ := up (vs := vs ++ [yv]) (g3'.trans g4) (k3.trans g4.keep) nf4
                  exact ⟨vs, g4.same _ _ eD3, by rw [rv.length]; exact hz, F4, acc ++ [d], vs ++ [yv], u1, u2, upd_same, nf4, ((rv3.grow g4).keep u3).append (.cons (r4.keep u3) .nil), q4⟩
                · rw [if_neg hz] at q4; exact (show False from q4).elim
              cases ee : elt s1 with
              | ok d =>
                rw [ee] at q'
                intro yv H4 F4 g4 r4
                exact put g4 (fun f => nf3 (g4.old _ _ eD3 f)) r4 q'
              | own dl =>
                rw [ee] at q'
                intro p ws H4 F4 g4 np nfp ep4 rw4
                obtain ⟨g5, r5⟩ := frz_new (P := P) g4 np ep4 rw4
                have hpD : D ≠ p := fun z => by rw [← z, eD3] at np; cases np
                exact put g5 (fun f => f.elim (fun f => nf3 (g4.old _ _ eD3 f)) hpD) r5 q'
              | exn d => rw [ee] at q'; exact (show False from q').elim
              | bad => rw [ee] at q'; exact (show False from q').elim
          | _ => exact (show False from q').elim
        | own dl => rw [et] at q'; exact (show False from q').elim
        | exn d => rw [et] at q'; exact (show False from q').elim
        | bad => rw [et] at q'; exact (show False from q').elim
    · have e : i = xs.length := by omega
      subst e
      rw [List.drop_length] at q'
      have q' : ∀ p vs H' F', Grow H F H' F' → H p = none → ¬ F' p → H' p = some (.lst vs) → P.rps H' F' vs acc → Q (.ref p) H' := q'
      exact .inl ⟨gv.stop H' F' k', q' D vs H' F' g' hHD nf eD rv⟩
end
end Nf
set_option linter.all false
set_option maxRecDepth 100000
set_option autoImplicit false
namespace Nf
open PySem PySem.Spec PyProof.Rows
section
variable {prog : Program} {w : World} {A : Around}
abbrev NoX : Value → Shared → Prop := fun _ _ => False
abbrev gLoop (elt target iter : Expr) (ifs : List Expr) (scope : Scope) (pos : Pos) (I : Addr) (cenv : Env) : Code := .compLoop (.GeneratorExp elt [⟨target, iter, ifs, 0⟩] scope pos) 0 (.ref I) .none cenv
structure TurnG (prog : Program) (w : World) (A' : Around) (elt target : Expr) (ifs : List Expr) (I : Addr) (cenv : Env) (n₀ : Nat) (J Ja : Nat → Shared → Prop) (sp : Nat → Bool) (R : Shared → Shared → Prop) (pz : Nat → Bool) (F : Nat → Value → Prop) : Prop where
  item : ∀ i s, i < n₀ → J i s → wpAny (model prog w) A' (pyNext (.ref I)) (fun o s1 => ∃ v, o = some v ∧
    wpAny (model prog w) A' (letOwnedTupleGo target (.ref I) v) (fun _ s2 => wpAny (model prog w) A' (assign target cenv v) (fun _ s3 =>
      wpAny (model prog w) A' (forIn ifs true fun c r => if r = true then do let ok ← isTrue c cenv (eval c cenv); pure (ForInStep.yield ok) else pure (ForInStep.yield r)) (fun ok s4 => ok = pz i ∧
        (pz i = false → J (i + 1) s4 ∧ R s s4) ∧ (pz i = true → wpAny (model prog w) A' (eval elt cenv) (fun y s5 => F i y ∧ Ja (i + 1) s5 ∧ (sp i = false → J (i + 1) s5) ∧ R s s5) NoX s4)) NoX s3) NoX s2) NoX s1) NoX s
  done : ∀ s, J n₀ s → wpAny (model prog w) A' (pyNext (.ref I)) (fun o s1 => o = none ∧ Ja n₀ s1 ∧ R s s1) NoX s
def genProtoG (J Ja : Nat → Shared → Prop) (sp : Nat → Bool) (R : Shared → Shared → Prop) (pz : Nat → Bool) (n₀ : Nat) (F : Nat → Value → Prop) : Protocol := fun m s₀ v s kap =>
  ∃ i, 1 ≤ m ∧ (passing pz n₀ 0)[(passing pz n₀ 0).length - 1 - (m - 1)]? = some i ∧ F i v ∧ Ja (i + 1) s ∧ (sp i = false → J (i + 1) s) ∧ R s₀ s ∧ ∀ s'', J (i + 1) s'' → kap (.send .none) s''
def genEndG (Ja : Nat → Shared → Prop) (R : Shared → Shared → Prop) (n₀ : Nat) : GenEnd := fun n s₀ r s₁ => r = .ok .next ∧ (n = 1 ∧ Ja n₀ s₁ ∧ R s₀ s₁)
theorem seg_genLoopG {elt target iter : Expr} {ifs : List Expr} {scope : Scope} {pos : Pos} {I : Addr} {n₀ : Nat} {cenv : Env} {J Ja : Nat → Shared → Prop} {sp : Nat → Bool} {R : Shared → Shared → Prop} {pz : Nat → Bool} {F : Nat → Value → Prop}
    (hR : ∀ s, R s s) (hT : ∀ a b c, R a b → R b c → R a c) (hco : cenv.scope.isCoroutine = false) (T : TurnG prog w (A.over (gLoop elt target iter ifs scope pos I cenv) []) elt target ifs I cenv n₀ J Ja sp R pz F) :
    ∀ (k i : Nat) (s₀ s : Shared), n₀ - i = k → i ≤ n₀ → J i s → R s₀ s →
      Seg (model prog w) A (genEndG Ja R n₀) (genProtoG J Ja sp R pz n₀ F) ((passing pz n₀ i).length + 1) s₀ (gLoop elt target iter ifs scope pos I cenv) ((model prog w).den (gLoop elt target iter ifs scope pos I cenv)) [] s := by
  intro k
  induction k with
  | zero =>
    intro i s₀ s hk hi hJ hs
    have hin : i = n₀ := by omega
    subst hin
    show Seg _ A _ _ _ s₀ _ ((compTurn (.GeneratorExp elt [⟨target, iter, ifs, 0⟩] scope pos) 0 (.ref I) .none cenv).onRaise (leaving cenv)) [] s
    rw [compTurn_gen, Sem.onRaise_eq_wrap]
    refine seg_bind_wrap (wpAny_standAt ?_)
    refine seg_bind_wrap (wpAny_mono (T.done s hJ) (fun o s1 h1 => ?_) fun _ _ e => e.elim)
    obtain ⟨rfl, j1, r1⟩ := h1
    exact seg_end (.ok .next) ⟨rfl, by rw [passing_end]; rfl, j1, hT _ _ _ hs r1⟩
  | succ k ih =>
    intro i s₀ s hk hi hJ hs
    have hlt : i < n₀ := by omega
    show Seg _ A _ _ _ s₀ _ ((compTurn (.GeneratorExp elt [⟨target, iter, ifs, 0⟩] scope pos) 0 (.ref I) .none cenv).onRaise (leaving cenv)) [] s
    rw [compTurn_gen, Sem.onRaise_eq_wrap]
    refine seg_bind_wrap (wpAny_standAt ?_)
    refine seg_bind_wrap (wpAny_mono (T.item i s hlt hJ) (fun o s1 h1 => ?_) fun _ _ e => e.elim)
    obtain ⟨v, rfl, h1⟩ := h1
    refine seg_bind_wrap (wpAny_mono h1 (fun _ s2 h2 => ?_) fun _ _ e => e.elim)
    refine seg_bind_wrap (wpAny_mono h2 (fun _ s3 h3 => ?_) fun _ _ e => e.elim)
    refine seg_bind_wrap (wpAny_mono h3 (fun ok s4 h4 => ?_) fun _ _ e => e.elim)
    obtain ⟨rfl, hf, ht⟩ := h4
    cases hpz : pz i with
    | false =>
      obtain ⟨j4, r4⟩ := hf hpz
      rw [passing_false hlt hpz]
      simp only [Bool.false_eq_true, if_false]
      exact seg_again rfl (ih (i + 1) s₀ _ (by omega) hlt j4 (hT _ _ _ hs r4))
    | true =>
      have ht := ht hpz
      rw [passing_true hlt hpz, List.length_cons]
      simp only [if_true]
      have hy : ∀ v, yieldOut cenv v = yieldValue v := fun v => by simp only [yieldOut, hco, Bool.false_eq_true, if_false]
      simp only [hy]
      rw [Sem.bind_eq_wrap', Sem.bind_eq_wrap', Sem.wrap_wrap, Sem.wrap_wrap]
      refine seg_wrap (wpAny_mono ht (fun y s5 h5 => ?_) fun _ _ e => e.elim)
      obtain ⟨hF, a5, j5, r5⟩ := h5
      refine seg_at (seg_yield rfl rfl rfl ⟨i, Nat.succ_le_succ (Nat.zero_le _), passing_here hlt hpz, hF, a5, j5, hT _ _ _ hs r5, fun s'' j'' => ?_⟩)
      exact seg_again rfl (ih (i + 1) s'' s'' (by omega) hlt j'' (hR _))
theorem seg_genStartG {elt target iter : Expr} {ifs : List Expr} {scope : Scope} {pos : Pos} {I : Addr} {n₀ : Nat} {cenv : Env} {J Ja : Nat → Shared → Prop} {sp : Nat → Bool} {R : Shared → Shared → Prop} {pz : Nat → Bool} {F : Nat → Value → Prop}
    (hR : ∀ s, R s s) (hT : ∀ a b c, R a b → R b c → R a c) (hco : cenv.scope.isCoroutine = false) (T : TurnG prog w (A.over (gLoop elt target iter ifs scope pos I cenv) []) elt target ifs I cenv n₀ J Ja sp R pz F)
    (self : ∀ (A' : Around) (s : Shared) (Q : Value → Shared → Prop) (E : Value → Shared → Prop), J 0 s → Q (.ref I) s → wpAny (model prog w) A' (pyIter (.ref I)) Q E s) (s : Shared) (hJ : J 0 s) :
    Seg (model prog w) A (genEndG Ja R n₀) (genProtoG J Ja sp R pz n₀ F) ((passing pz n₀ 0).length + 1) s (.compStart (.GeneratorExp elt [⟨target, iter, ifs, 0⟩] scope pos) 0 (.ref I) .none cenv)
      ((model prog w).den (.compStart (.GeneratorExp elt [⟨target, iter, ifs, 0⟩] scope pos) 0 (.ref I) .none cenv)) [] s := by
  have loop := seg_genLoopG (iter := iter) (scope := scope) (pos := pos) hR hT hco T n₀ 0 s s (Nat.sub_zero _) (Nat.zero_le _) hJ (hR s)
  show Seg _ A _ _ _ s _ ((compStart (.GeneratorExp elt [⟨target, iter, ifs, 0⟩] scope pos) 0 (.ref I) .none cenv).onRaise (leaving cenv)) [] s
  unfold compStart
  rw [Sem.onRaise_eq_wrap]
  show Seg _ A _ _ _ s _ ((ask >>= _).wrap _ _ _ _) [] s
  refine seg_bind_wrap (wpAny_askSetting ?_)
  split
  · exact seg_again rfl loop
  · first
      | exact seg_bind_wrap (wpAny_rule (seg_bind_wrap (wpAny_standAt (seg_bind_wrap (self _ s _ _ hJ (seg_again rfl loop))))))
      | (refine seg_bind_wrap (wpAny_rule ?_); show Seg _ A _ _ _ s _ ((standAt iter.pos >>= _).wrap _ _ _ _) [] s; exact seg_bind_wrap (wpAny_standAt (seg_bind_wrap (self _ s _ _ hJ (seg_again rfl loop)))))
theorem setGen_back {s : Shared} {g : Nat} {x y : GenState} (h : s.gens[g]? = some y) : (s.setGen g x).setGen g y = s := by
  obtain ⟨hp, gs, d, t, o⟩ := s
  simp only [Shared.setGen]
  congr 1
  obtain ⟨hlt, e⟩ := Array.getElem?_eq_some_iff.mp h
  have hlt : g < gs.size := hlt
  apply Array.ext_getElem?
  intro i
  rw [Array.getElem?_setIfInBounds, Array.getElem?_setIfInBounds]
  by_cases q : g = i
  · subst q
    simp [hlt]
    exact e.symm
  · simp [q]
def ixG (pz : Nat → Bool) (n₀ : Nat) : Nat → Nat
  | 0 => 0
  | j + 1 => match (passing pz n₀ 0)[j]? with
    | some i => i + 1
    | none => n₀
structure JOk (J Ja : Nat → Shared → Prop) (R : Shared → Shared → Prop) (a : Addr) (g : Nat) : Prop where
  refl : ∀ s, R s s
  trans : ∀ a b c, R a b → R b c → R a c
  sub : ∀ i s, J i s → Ja i s
  gen : ∀ i s, Ja i s → s.heap.IsGen a g ∧ s.heap.NoLimit ∧ s.gens[g]? = some .running
  ext : ∀ i s h', Ja i s → (∀ b o, s.heap.get? b = some o → h'.get? b = some o) → Ja i { s with heap := h' } ∧ R s { s with heap := h' }
def GenAtG (prog : Program) (w : World) (A : Around) (g : Nat) (J Ja : Nat → Shared → Prop) (sp : Nat → Bool) (R : Shared → Shared → Prop) (pz : Nat → Bool) (n₀ : Nat) (F : Nat → Value → Prop) (j : Nat) (s : Shared) : Prop :=
  ∃ gs, s.gens[g]? = some gs ∧ gs.bare = true ∧ J (ixG pz n₀ j) (s.setGen g .running) ∧ ∀ s'', J (ixG pz n₀ j) s'' → gs.Goes (model prog w) A.in1 (genEndG Ja R n₀) (genProtoG J Ja sp R pz n₀ F) ((passing pz n₀ 0).length - j + 1) (.send .none) s''
def GenFin (g : Nat) (Ja : Nat → Shared → Prop) (s : Shared) : Prop := ∃ gs, s.gens[g]? = some gs ∧ gs.bare = true ∧ ∃ i, Ja i (s.setGen g .running)
def spY (pz : Nat → Bool) (n₀ : Nat) (sp : Nat → Bool) (j : Nat) : Bool := match (passing pz n₀ 0)[j]? with
  | some i => sp i
  | none => false
structure WalksG (prog : Program) (w : World) (A : Around) (I : Addr) (n : Nat) (P : Nat → Value → Prop) (sp : Nat → Bool) (St : Nat → Shared → Prop) (Fn : Shared → Prop) (R : Shared → Shared → Prop) : Prop where
  refl : ∀ s, R s s
  trans : ∀ a b c, R a b → R b c → R a c
  item : ∀ i (s : Shared) (Q : Option Value → Shared → Prop) (E : Value → Shared → Prop), i < n → St i s → (∀ v s', P i v → Fn s' → (sp i = false → St (i + 1) s') → R s s' → Q (some v) s') → wpAny (model prog w) A (pyNext (.ref I)) Q E s
  done : ∀ (s : Shared) (Q : Option Value → Shared → Prop) (E : Value → Shared → Prop), St n s → (∀ s', Fn s' → R s s' → Q none s') → wpAny (model prog w) A (pyNext (.ref I)) Q E s
theorem walksG_gen {a : Addr} {g : Nat} {J Ja : Nat → Shared → Prop} {sp : Nat → Bool} {R : Shared → Shared → Prop} {pz : Nat → Bool} {n₀ : Nat} {F : Nat → Value → Prop} (hh : A.handled = none) (hroom : A.depth < recursionLimit) (j : JOk J Ja R a g) :
    WalksG prog w A a (passing pz n₀ 0).length (fun j y => ∃ i, (passing pz n₀ 0)[j]? = some i ∧ F i y) (spY pz n₀ sp) (GenAtG prog w A g J Ja sp R pz n₀ F) (GenFin g Ja) (fun s s' => R (s.setGen g .running) (s'.setGen g .running)) where
  refl := fun s => j.refl _
  trans := fun a b c x y => j.trans _ _ _ x y
  item := fun k s Q E hj st hQ => by
    obtain ⟨gs, hgs, _, hJ, hgo⟩ := st
    obtain ⟨hg, hl, _⟩ := j.gen _ _ (j.sub _ _ hJ)
    obtain ⟨m, hm⟩ : ∃ m, (passing pz n₀ 0).length - k = m + 1 := ⟨(passing pz n₀ 0).length - k - 1, by omega⟩
    rw [hm] at hgo
    refine wpAny_pyNext_genexpQ (P := fun n s₀ s₁ => n = 1 ∧ Ja n₀ s₁ ∧ R s₀ s₁) hh hl hroom hg hgs (hgo _ hJ) (fun v s₁ gs' hb hv => ?_) (fun s₁ hp h' hk => ?_)
    · obtain ⟨i, _, hi, hF, a1, j1, r1, hkap⟩ := hv
      have hidx : (passing pz n₀ 0).length - 1 - (m + 1 + 1 - 1 - 1) = k := by omega
      rw [hidx] at hi
      have ix : ixG pz n₀ (k + 1) = i + 1 := by show (match (passing pz n₀ 0)[k]? with | some i => i + 1 | none => n₀) = i + 1; rw [hi]
      have sy : spY pz n₀ sp k = sp i := by unfold spY; rw [hi]
      have hrun := (j.gen _ _ a1).2.2
      have bk := setGen_back (x := gs') hrun
      refine hQ v _ ⟨i, hi, hF⟩ ⟨gs', setGen_self hrun, hb, _, by rw [bk]; exact a1⟩ (fun hs => ⟨gs', setGen_self hrun, hb, by rw [ix, bk]; exact j1 (by rw [← sy]; exact hs), fun s'' j'' => ?_⟩) (by rw [bk]; exact r1)
      have e : (passing pz n₀ 0).length - (k + 1) = m := by omega
      rw [e]
      rw [ix] at j''
      exact hkap s'' j''
    · exact absurd hp.1 (by omega)
  done := fun s Q E st hQ => by
    obtain ⟨gs, hgs, _, hJ, hgo⟩ := st
    obtain ⟨hg, hl, _⟩ := j.gen _ _ (j.sub _ _ hJ)
    rw [Nat.sub_self] at hgo
    refine wpAny_pyNext_genexpQ (P := fun n s₀ s₁ => n = 1 ∧ Ja n₀ s₁ ∧ R s₀ s₁) hh hl hroom hg hgs (hgo _ hJ) (fun v s₁ gs' hb hv => ?_) (fun s₁ hp h' hk => ?_)
    · obtain ⟨i, h1, _⟩ := hv
      exact absurd h1 (by omega)
    · obtain ⟨_, j1, r1⟩ := hp
      have hrun := (j.gen _ _ j1).2.2
      obtain ⟨j2, r2⟩ := j.ext _ _ h' j1 hk
      have bk : Shared.setGen { s₁.setGen g .finished with heap := h' } g .running = { s₁ with heap := h' } := by
        have := setGen_back (s := { s₁ with heap := h' }) (x := .finished) hrun
        exact this
      exact hQ _ ⟨.finished, setGen_self (s := { s₁ with heap := h' }) hrun, rfl, n₀, by rw [bk]; exact j2⟩ (by rw [bk]; exact j.trans _ _ _ r1 r2)
end
section
variable {prog : Program} {w : World} {A : Around} {Rr : Result → Shared → Prop} {I : Addr} {n : Nat} {P : Nat → Value → Prop} {tr : Nat → Bool} {St : Nat → Shared → Prop} {Fn : Shared → Prop} {R : Shared → Shared → Prop}
theorem codeAny_any_loopG (W : WalksG prog w A.in1 I n P tr St Fn R) (htr : TruthOf prog w A.in1 P tr) : ∀ (k i : Nat) (s : Shared), n - i = k → i ≤ n → St i s →
    (∀ s', Fn s' → R s s' → Rr (.ok (.ret (.bool (((List.range n).drop i).any tr)))) s') → codeAny (model prog w) A (.builtin "any.loop" ⟨[.ref I], []⟩) Rr s := by
  intro k
  induction k with
  | zero =>
    intro i s hk hi hst hR
    have hin : i = n := by omega
    subst hin
    refine codeAny_builtin F.entry_any_loop ?_
    rw [Around.under_plainId F.plain_any_loop _]
    show wpAny _ A.in1 (pyNext (.ref I) >>= _) _ _ s
    refine wpAny_bind (W.done s _ _ hst fun s' hf hm => ?_)
    refine wpAny_bind (wpAny_rule (wpAny_pure ?_))
    have := hR s' hf hm
    rw [List.drop_of_length_le (by simp)] at this
    exact this
  | succ k ih =>
    intro i s hk hi hst hR
    have hlt : i < n := by omega
    have hd : (List.range n).drop i = i :: (List.range n).drop (i + 1) := by
      rw [List.drop_eq_getElem_cons (by simpa using hlt)]; simp
    refine codeAny_builtin F.entry_any_loop ?_
    rw [Around.under_plainId F.plain_any_loop _]
    show wpAny _ A.in1 (pyNext (.ref I) >>= _) _ _ s
    refine wpAny_bind (W.item i s _ _ hlt hst fun v s' hP hfn hst' hm => ?_)
    refine wpAny_bind (wpAny_holding (htr i v _ _ _ hP ?_))
    refine wpAny_bind (wpAny_letGo ?_)
    cases hb : tr i with
    | false =>
      simp only [Bool.false_eq_true, if_false]
      refine wpAny_pure ⟨plainId_quiet F.plain_any_loop _, ih (i + 1) _ (by omega) hlt (hst' hb) fun s'' hf hm' => ?_⟩
      have := hR s'' hf (W.trans _ _ _ hm hm')
      rw [hd, List.any_cons, hb, Bool.false_or] at this
      exact this
    | true =>
      simp only [if_true]
      refine wpAny_bind (wpAny_rule (wpAny_pure ?_))
      have := hR s' hfn hm
      rw [hd, List.any_cons, hb, Bool.true_or] at this
      exact this
theorem call_any_walkG {E : Value → Shared → Prop} {s : Shared} {x : Value} {Q : Value → Shared → Prop}
    (h : wpAny (model prog w) A.in1 (pyIter x) (fun it s₂ => it = .ref I ∧ WalksG prog w A.in1 I n P tr St Fn R ∧ St 0 s₂ ∧ TruthOf prog w A.in1 P tr ∧
      ∀ s', Fn s' → R s₂ s' → Q (.bool ((List.range n).any tr)) s') E s) :
    wpAny (model prog w) A (call (.builtin "any") [x]) Q E s := by
  refine call_function_tree F.kind_any F.plain_any F.entry_any (F.args_any1 _) ?_
  unfold Builtin.«any»
  refine wpAny_bind (m := oneArg "any" _) (wpAny_pure ?_)
  refine wpAny_bind (wpAny_mono h (fun it s₂ h₂ => ?_) fun _ _ e => e)
  obtain ⟨rfl, W, hst, htr, hQ⟩ := h₂
  exact wpAny_pure ⟨plainId_quiet F.plain_any_loop _, codeAny_any_loopG W htr n 0 s₂ rfl (Nat.zero_le _) hst fun s' hf hm => by simpa using hQ s' hf hm⟩
end
end Nf
set_option linter.all false
set_option maxRecDepth 100000
set_option autoImplicit false
set_option maxHeartbeats 4000000
namespace Nf
open PySem PySem.Spec PyProof.Rows L2
abbrev genObj (g : Nat) (q : Str) (t1 t2 : Tok) : Obj := { cls := .type "generator", data := .fields #[.int g 0, .str "<genexpr>" t1, .str q t2] }
abbrev cxGen (X : Cx) (A' : Around) (s : Shared) (H : Hp) (scope : Scope) (genv : Env) (fp : List Addr) (pn : List (Addr × Obj)) : Cx := { X with A := A', s_0 := s, H_0 := H, env := genv, outer := X.stack, stack := genv :: X.stack, ex := fp, fn := fun x => scope.names.lookup x == some .cell, pn := pn, xe := fun _ _ => False }
section
variable {X : Cx} {pins : List (Addr × Obj)} {σ : L2.St} {H : Hp} {s : Shared}
theorem gen_start {scope : Scope} {own : List (Str × Nat)} {fp : List Addr} {code it : Value} {A' : Around} {h' : Heap} {go : Obj} {tk : Nat} (I : Inv X pins σ H s) (ok : BlkOk X.N X.env.scope scope own) (hcell : ∀ y ∈ scope.names, y.2 ≠ .cell) (hN : X.N.Nodup)
    (hfp : ∀ b ∈ fp, FpOk X pins H b ∧ b < s.heap.objs.size) (hh : A'.handled = none)
    (hA : A'.frames = some (genEnv scope (cloFrom X.env.cells scope.names []) s.heap.objs.size code builtinsNs X.env :: X.stack))
    (hn' : h'.Ns s.heap.objs.size (fun y => if y = ".0" then some it else none)) (hs' : Heap.SameBut s.heap.objs.size (s.heap.push { cls := .type "frame", data := .dict #[] }) h') (hgd : ∀ v, go.data ≠ .cell v) (hgf : go.isFreed = false) :
    Inv (cxGen X A' { s with gens := s.gens.push .running } H scope (genEnv scope (cloFrom X.env.cells scope.names []) s.heap.objs.size code builtinsNs X.env) fp [(h'.objs.size, go)]) [] (wipe σ (own.map (·.2))) H
      { s with gens := s.gens.push .running, toks := tk, heap := h'.push go } := by
  have hfree : ∀ y ∈ scope.names, y.2 = .free → ∃ c, X.env.cells.lookup y.1 = some c := fun y hy e => by
    rcases ok.free y hy e with k | k
    · exact I.ok.has _ (.inl k)
    · exact I.ok.has _ (.inr k)
  generalize hcenv : genEnv scope (cloFrom X.env.cells scope.names []) s.heap.objs.size code builtinsNs X.env = cenv at hA ⊢
  have hsz : h'.objs.size = s.heap.objs.size + 1 := by rw [hs'.1, Heap.size_push]
  have kp : ∀ b o, s.heap.get? b = some o → (h'.push go).get? b = some o := fun b o e => Heap.get?_push_of_some _ (hs'.extBut b o (Nat.ne_of_lt (Heap.lt_size e)) (Heap.get?_push_of_some _ e))
  have hL : cenv.locals = s.heap.objs.size := by rw [← hcenv]; rfl
  have hcl : cenv.cells = cloFrom X.env.cells scope.names [] := by rw [← hcenv]; rfl
  have hsc : cenv.scope = scope := by rw [← hcenv]; rfl
  have hko : ∀ y, cenv.kindOf y = scope.names.lookup y := fun y => by unfold Env.kindOf; rw [hsc]
  have mem : ∀ {y c}, cenv.cells.lookup y = some c → X.env.cells.lookup y = some c ∧ c < s.heap.objs.size := fun {y c} e => by
    rw [hcl] at e
    rcases cloFrom_mem (PySem.mem_of_lookup e) with hm | ⟨h1, rfl⟩
    · cases hm
    · obtain ⟨c, hc⟩ := hfree _ h1 rfl
      rw [hc]
      obtain ⟨w, z⟩ := I.cell _ _ hc
      exact ⟨rfl, z.lt⟩
  have look : ∀ {y}, scope.names.lookup y = some .free → ∃ c, cenv.cells.lookup y = some c ∧ X.env.cells.lookup y = some c := fun {y} hl => by
    have hy : (y, NameKind.free) ∈ scope.names := PySem.mem_of_lookup hl
    obtain ⟨c', e'⟩ := mem_lookup (cloFrom_has (cells := X.env.cells) (acc := []) hy)
    rw [← hcl] at e'
    exact ⟨c', e', (mem e').1⟩
  have nocell : ∀ y, scope.names.lookup y ≠ some .cell := fun y e => hcell _ (PySem.mem_of_lookup e) rfl
  have okB : (cxGen X A' { s with gens := s.gens.push .running } H scope cenv fp [(h'.objs.size, go)]).Ok := by
    refine ⟨I.ok.mod, by show cenv.scope.kind = _; rw [hsc]; exact ok.kind, by show cenv.globals = _; rw [← hcenv]; exact I.ok.glob, by show cenv.builtins = _; rw [← hcenv]; rfl, by show s.heap.objs.size ≤ cenv.locals; rw [hL]; exact Nat.le_refl _,
      fun y z c e1 e2 => I.ok.inj y z c (mem e1).1 (mem e2).1, fun y hy => ?_, fun y c z e => ?_, fun _ => hh, hA, .inr ⟨rfl, by show cenv.frame = some cenv.locals; rw [← hcenv]; rfl⟩, fun b hb => ⟨?_, fun y c e z => ?_⟩, I.bs, Nat.le_trans I.ok.bsz I.sz, fun b o e hb => ?_, fun b hb z => ?_, I.stack, I.stkFree⟩
    · rcases hy with hy | hy
      · have hy : cenv.kindOf y = some .cell := hy
        rw [hko] at hy; exact absurd hy (nocell y)
      · have hy : cenv.kindOf y = some .free := hy
        rw [hko] at hy
        obtain ⟨c, h1, _⟩ := look hy
        exact ⟨c, h1⟩
    · have z : (scope.names.lookup y == some NameKind.cell) = true := z
      have z : scope.names.lookup y = some .cell := by simpa using z
      exact absurd z (nocell y)
    · show b ≠ cenv.locals
      rw [hL]; exact Nat.ne_of_lt (hfp b hb).2
    · exact (hfp b hb).1.2.2.2.2.1 y c (mem e).1 z
    · rcases (hfp b hb).1.2.2.2.1 with z | z
      · exact I.ok.noex b o e z
      · exact absurd (Nat.lt_of_lt_of_le (Heap.lt_size e) (Nat.le_trans I.ok.bsz z)) (Nat.lt_irrefl _)
    · rcases List.mem_cons.mp (I.stkSub b z) with z | z
      · exact (hfp b hb).1.2.1 z
      · exact (hfp b hb).1.2.2.1 z
  refine ⟨okB, rfl, .same rfl rfl, Un.kept kp, ⟨fun y => if y = ".0" then some it else none, ?_, fun i y av e1 e2 e3 => ?_⟩, fun y c e => ?_, ?_, fun y c e => I.freeC y c (mem e).1, fun p hp => ?_, I.hok.kept kp, by rw [wipe_length]; exact I.len⟩
  · show Heap.Ns _ cenv.locals _
    rw [hL]
    exact hn'.push _
  · obtain ⟨e2, hne⟩ := wipe_some e2
    have hfr : scope.names.lookup y = some .free := by
      have e3 : Vis cenv.scope y := e3
      rw [hsc] at e3
      have no : ∀ k, scope.names.lookup y = some k → ¬ (k = .local ∨ k = .cell) := fun k e hh => by
        rcases ok.own _ (PySem.mem_of_lookup e) hh with e' | e'
        · obtain ⟨p, hp, hpy⟩ := List.mem_map.mp e'
          have e3 := ok.ix p hp
          have : p.1 = y := hpy
          rw [this] at e3
          exact hne (List.mem_map.mpr ⟨p, hp, nodup_ix hN e3 e1⟩)
        · exact e' (List.mem_of_getElem? e1)
      rcases e3 with e3 | e3 | e3
      · exact absurd (.inl rfl) (no _ e3)
      · exact absurd (.inr rfl) (no _ e3)
      · exact e3
    obtain ⟨m, hn, hl⟩ := I.loc
    have hvis : Vis X.env.scope y := (ok.free _ (PySem.mem_of_lookup hfr) rfl).elim (fun k => .inr (.inl k)) (fun k => .inr (.inr k))
    obtain ⟨w, r, q⟩ := hl i y av e1 e2 hvis
    refine ⟨w, r, .inr ⟨.inr (by show cenv.kindOf y = _; rw [hko]; exact hfr), ?_⟩⟩
    obtain ⟨c, h1, h2⟩ := look hfr
    rcases q with ⟨k, _⟩ | ⟨_, c', e', z⟩
    · have k : X.env.scope.names.lookup y = some .local := k
      rcases ok.free _ (PySem.mem_of_lookup hfr) rfl with k' | k' <;> rw [show X.env.scope.names.lookup y = _ from k'] at k <;> cases k
    · rw [h2] at e'; cases e'
      exact ⟨c, h1, z.keeps kp⟩
  · obtain ⟨w, z⟩ := I.cell y c (mem e).1
    exact ⟨w, z.keeps kp⟩
  · show H cenv.locals = none
    rw [hL]; exact I.hok.fresh (Nat.le_refl _)
  · have hp : p ∈ [(h'.objs.size, go)] ++ ([] : List (Addr × Obj)) := hp
    have e : p = (h'.objs.size, go) := by simpa using hp
    subst e
    refine ⟨Heap.get?_push_size _ hgf, I.hok.fresh (by rw [hsz]; exact Nat.le_succ _), by show h'.objs.size ≠ cenv.locals; rw [hL, hsz]; exact Nat.succ_ne_self _, fun z => ?_, hgd⟩
    have z : h'.objs.size ∈ frs X.stack := z
    rcases List.mem_cons.mp (I.stkSub _ z) with z | z
    · have q : X.env.locals < s.heap.objs.size := I.lt
      rw [← z, hsz] at q
      exact absurd (Nat.lt_of_succ_lt q) (Nat.lt_irrefl _)
    · exact I.nofs (a := h'.objs.size) (by rw [hsz]; exact Nat.le_succ _) z
end
structure AnyW (J : L2.It) (g : TG) (tt : TT) (te : TE) (σw : L2.St) (own : List Nat) (n₀ : Nat) (pz tr : Nat → Bool) (W : Nat → Hp → Prop) (Wa : Hp → Prop) : Prop where
  stop : ∀ H, W n₀ H → J.stop n₀ H
  wa : ∀ i H, W i H → Wa H
  go : ∀ i H, i < n₀ → W i H → J.go i H
  step : ∀ i H, i < n₀ → W i H → ∀ x H', J.yld i H x H' → g x σw H' fun σ2 H2 => wipe σ2 own = σw ∧ tt σ2 H2 fun b H3 => b = pz i ∧ (pz i = false → W (i + 1) H3) ∧ (pz i = true → te σ2 H3 fun y H4 => y = .bl (tr i) ∧ Wa H4 ∧ (tr i = false → W (i + 1) H4))
def gJ (Y : Cx) (σw : L2.St) (fp : List Addr) (tn : Nat → Heap → Prop) (W : Nat → Hp → Prop) (i : Nat) (s : Shared) : Prop := ∃ H', Inv Y [] σw H' s ∧ tn i s.heap ∧ (∀ b ∈ fp, H' b = none) ∧ W i H'
def gJa (Y : Cx) (σw : L2.St) (Wa : Hp → Prop) (_ : Nat) (s : Shared) : Prop := ∃ H', Inv Y [] σw H' s ∧ Wa H'
theorem turnG_of {Y : Cx} {elt tg : Expr} {ifs : List Expr} {it : Addr} {fp : List Addr} {tn : Nat → Heap → Prop} {J : L2.It} {g : TG} {tt : TT} {te : TE} {σw : L2.St} {own : List Nat} {n₀ : Nat} {pz tr : Nat → Bool} {W : Nat → Hp → Prop} {Wa : Hp → Prop}
    (hc : Y.calm = true) (hex : Y.ex = fp) (hpn : ∀ b ∈ fp, ∀ p ∈ Y.pn, p.1 ≠ b) (hxe : Y.xe = fun _ _ => False) (T : Turn Y.prog Y.w Y.K tg J fp it tn) (pg : PG Y tg g) (pt : PTs Y ifs tt) (pe : PE Y elt te) (hw : AnyW J g tt te σw own n₀ pz tr W Wa) :
    TurnG Y.prog Y.w Y.A elt tg ifs it Y.env n₀ (gJ Y σw fp tn W) (gJa Y σw Wa) tr (fun _ _ => True) pz (fun i y => y = .bool (tr i)) := by
  have stat : ∀ {σ' : L2.St} {H' : Hp} {s' : Shared}, Inv Y [] σ' H' s' → (∀ b ∈ fp, H' b = none) → ∀ b ∈ fp, FpOk Y [] H' b := fun {σ' H' s'} I' hn b hb =>
    ⟨hn b hb, (I'.ok.exf b (by rw [hex]; exact hb)).1, I'.ok.exfs b (by rw [hex]; exact hb), .inl (by rw [hex]; exact hb), fun x c e => (I'.ok.exf b (by rw [hex]; exact hb)).2 x c e, fun p hp => hpn b hb p (by simpa using hp)⟩
  unfold PG at pg
  unfold PTs at pt
  unfold PE at pe
  rw [hxe] at pg pt pe
  constructor
  · intro i s5 hi ⟨H5, I5, st5, n5, w5⟩
    have ti := T.item Y rfl rfl rfl hc i [] s5 _ H5 (fun _ _ => False) I5 (stat I5 n5) st5 (hw.go i H5 hi w5)
    refine thnF ti fun r s6 ⟨u, hr, h6⟩ => ⟨u, hr, ?_⟩
    refine thnF h6 fun _ s7 ⟨x, H7, I7, r7, y7, st7, n7⟩ => ?_
    have I7' := I7.pinned (stat I7 n7) (T.obj _ _ st7)
    refine thnF (pg _ s7 _ H7 x u _ I7' r7 (hw.step i H5 hi w5 x H7 y7)) fun _ s8 ⟨σ8, H8, I8, hw8, q8⟩ => ?_
    refine thnF (pt _ s8 σ8 H8 _ I8 q8) fun b s9 ⟨H9, I9, q9⟩ => ?_
    have hl : σw.length = σ8.length := by rw [← hw8, wipe_length]
    have weak : ∀ {s' : Shared} {H' : Hp}, Inv Y ([] ++ pinsAt fp s7.heap) σ8 H' s' → Inv Y [] σw H' s' := fun {s' H'} I' =>
      (I'.unpinned (pins := [])).weak hl fun j v e => by rw [← hw8] at e; exact (wipe_some e).1
    have fin : ∀ {s' : Shared} {H' : Hp}, Inv Y ([] ++ pinsAt fp s7.heap) σ8 H' s' → W (i + 1) H' → gJ Y σw fp tn W (i + 1) s' := fun {s' H'} I' w' => by
      have pin' : ∀ b ∈ fp, ∀ o, s7.heap.get? b = some o → s'.heap.get? b = some o ∧ H' b = none := fun b hb o e =>
        let z := I'.pin (b, o) (List.mem_append_right _ (List.mem_append_right _ (mem_pinsAt hb e)))
        ⟨z.1, z.2.1⟩
      refine ⟨H', weak I', T.keep _ _ _ st7 fun b hb o e => (pin' b hb o e).1, fun b hb => ?_, w'⟩
      obtain ⟨o, e, _⟩ := T.obj _ _ st7 b hb
      exact (pin' b hb o e).2
    obtain ⟨hb, hf, ht⟩ := q9
    refine ⟨hb, fun z => ⟨fin I9 (hf z), trivial⟩, fun z => ?_⟩
    refine thnF (pe _ s9 σ8 H9 _ I9 (ht z)) fun y s10 ⟨yv, H10, I10, r10, ey, wa, wn⟩ => ?_
    subst ey
    exact ⟨r10, ⟨H10, weak I10, wa⟩, fun z => fin I10 (wn z), trivial⟩
  · intro s5 ⟨H5, I5, st5, n5, w5⟩
    have td := T.done Y rfl rfl rfl hc n₀ [] s5 _ H5 (fun _ _ => False) I5 (stat I5 n5) st5 (hw.stop H5 w5)
    exact thnF td fun r s6 ⟨hr, I6⟩ => ⟨hr, ⟨H5, I6, hw.wa _ _ w5⟩, trivial⟩
theorem jok_of {X : Cx} {A' : Around} {s4 : Shared} {H : Hp} {scope : Scope} {genv : Env} {fp : List Addr} {a : Addr} {q : Str} {t1 t2 : Tok} {σw : L2.St} {tn : Nat → Heap → Prop} {W : Nat → Hp → Prop} {Wa : Hp → Prop} (hwa : ∀ i H, W i H → Wa H) :
    JOk (gJ (cxGen X A' { s4 with gens := s4.gens.push .running } H scope genv fp [(a, genObj s4.gens.size q t1 t2)]) σw fp tn W) (gJa (cxGen X A' { s4 with gens := s4.gens.push .running } H scope genv fp [(a, genObj s4.gens.size q t1 t2)]) σw Wa) (fun _ _ => True) a s4.gens.size where
  refl := fun _ => trivial
  trans := fun _ _ _ _ _ => trivial
  sub := fun i s ⟨H', I, _, _, w⟩ => ⟨H', I, hwa i H' w⟩
  gen := fun i s ⟨H', I, _⟩ => by
    have p := I.pin (a, genObj s4.gens.size q t1 t2) (List.mem_append_left _ (List.mem_cons_self ..))
    refine ⟨⟨_, _, _, p.1, rfl, rfl, rfl⟩, I.nolimit, ?_⟩
    have o := I.bare.old s4.gens.size (by show s4.gens.size < (s4.gens.push .running).size; rw [Array.size_push]; exact Nat.lt_succ_self _)
    rw [o]
    exact Array.getElem?_push_size ..
  ext := fun i s h' ⟨H', I, w⟩ k => ⟨⟨H', I.kept (t' := s.toks) k, w⟩, trivial⟩
theorem gen_back {X : Cx} {pins : List (Addr × Obj)} {σ : L2.St} {H : Hp} {A' : Around} {s4 s' : Shared} {scope : Scope} {genv : Env} {fp : List Addr} {pn : List (Addr × Obj)} {σw : L2.St} {Wa : Hp → Prop} (I : Inv X pins σ H s4) (hfp : ∀ b ∈ fp, FpOk X pins H b)
    (hf : GenFin s4.gens.size (gJa (cxGen X A' { s4 with gens := s4.gens.push .running } H scope genv fp pn) σw Wa) s') : ∃ H', Inv X pins σ H' s' ∧ Wa H' := by
  obtain ⟨gs, hgs, hb, i, H', J, w⟩ := hf
  have hlt : s4.gens.size < s'.gens.size := by
    rcases Nat.lt_or_ge s4.gens.size s'.gens.size with z | z
    · exact z
    · rw [Array.getElem?_eq_none z] at hgs; cases hgs
  have gg : GG s4 s' := by
    have b := J.bare
    refine ⟨b.drawn, Nat.le_of_lt hlt, fun k hk => ?_, fun k y hk e => ?_⟩
    · have o := b.old k (by show k < (s4.gens.push .running).size; rw [Array.size_push]; exact Nat.lt_succ_of_lt hk)
      have o : (s'.gens.setIfInBounds s4.gens.size .running)[k]? = (s4.gens.push .running)[k]? := o
      rw [Array.getElem?_setIfInBounds_ne (Nat.ne_of_gt hk), Array.getElem?_push_lt hk] at o
      rw [o, Array.getElem?_eq_getElem hk]
    · by_cases z : k = s4.gens.size
      · subst z; rw [hgs] at e; cases e; exact hb
      · refine b.new k y (by show (s4.gens.push .running).size ≤ k; rw [Array.size_push]; omega) ?_
        show (s'.gens.setIfInBounds s4.gens.size .running)[k]? = some y
        rw [Array.getElem?_setIfInBounds_ne (Ne.symm z)]; exact e
  exact ⟨H', I.call' (ch := fp) J.os J.base J.hok gg fun b hb => ⟨(hfp b hb).2.2.2.1, (hfp b hb).2.1, (hfp b hb).2.2.2.2.1, (hfp b hb).2.2.2.2.2⟩, w⟩
def tAny (wi : TI) (g : TG) (tt : TT) (te : TE) (own : List Nat) (Tb : Hp → Prop) : TE := fun σ H Q => wi σ H fun J H1 => Tb H1 ∧ ∃ n₀ pz tr W Wa, AnyW J g tt te (wipe σ own) own n₀ pz tr W Wa ∧ W 0 H1 ∧
  ∀ H', Wa H' → Q (.bl ((List.range (passing pz n₀ 0).length).any (spY pz n₀ tr))) H'
abbrev genA (A : Around) (elt tg iter : Expr) (ifs : List Expr) (scope : Scope) (pos : Pos) (it : Addr) (genv : Env) : Around := A.in1.in1.over (gLoop elt tg iter ifs scope pos it genv) []
theorem any_core {X : Cx} {pins : List (Addr × Obj)} {s : Shared} {σ : L2.St} {H : Hp} {Q : VK} {elt tg iter : Expr} {ifs : List Expr} {scope : Scope} {own : List (Str × Nat)} {pos : Pos} {wi : TI} {g : TG} {tt : TT} {te : TE} {Tb : Hp → Prop}
    (hc : X.calm = true) (hN : X.N.Nodup) (I : Inv X pins σ H s) (hi : PI X tg iter wi) (ok : BlkOk X.N X.env.scope scope own) (hcell : ∀ y ∈ scope.names, y.2 ≠ .cell) (hco : scope.isCoroutine = false) (h0 : scope.names.lookup (".0" : Str) = some NameKind.local) (hroom : X.A.depth < recursionLimit)
    (hg : ∀ (A' : Around) (s : Shared) (H : Hp) (C : Addr) (code : Value) (fp : List Addr) (pn : List (Addr × Obj)), A'.depth ≤ X.A.depth + 1 → A'.units ≤ X.A.units + 8 → A'.handled = none → PG (cxGen X A' s H scope (genEnv scope (cloFrom X.env.cells scope.names []) C code builtinsNs X.env) fp pn) tg g)
    (ht : ∀ (A' : Around) (s : Shared) (H : Hp) (C : Addr) (code : Value) (fp : List Addr) (pn : List (Addr × Obj)), A'.depth ≤ X.A.depth + 1 → A'.units ≤ X.A.units + 8 → A'.handled = none → PTs (cxGen X A' s H scope (genEnv scope (cloFrom X.env.cells scope.names []) C code builtinsNs X.env) fp pn) ifs tt)
    (he : ∀ (A' : Around) (s : Shared) (H : Hp) (C : Addr) (code : Value) (fp : List Addr) (pn : List (Addr × Obj)), A'.depth ≤ X.A.depth + 1 → A'.units ≤ X.A.units + 8 → A'.handled = none → PE (cxGen X A' s H scope (genEnv scope (cloFrom X.env.cells scope.names []) C code builtinsNs X.env) fp pn) elt te)
    (hs : ∀ x, genFold iter X.env x = pure x)
    (hcode : ∀ (s : Shared) (H : Hp), Inv X pins σ H s → Tb H → wpAny (model X.prog X.w) X.A (genexprCode X.env pos (X.env.qual ++ "<genexpr>") scope) (fun _ s3 => Inv X pins σ H s3 ∧ ∀ b o, (∀ u, H b = some u → False) → s.heap.get? b = some o → s3.heap.get? b = some o) X.xe s)
    (hbi : ∀ (s : Shared) (H : Hp) (Q : Addr → Shared → Prop), Inv X pins σ H s → Q builtinsNs s → wpAny (model X.prog X.w) X.A (builtinsFor X.env.globals X.env.builtins) Q X.xe s)
    (h : tAny wi g tt te (own.map (·.2)) Tb σ H Q) :
    wpAny (model X.prog X.w) X.A (eval (.GeneratorExp elt [⟨tg, iter, ifs, 0⟩] scope pos) X.env) (fun v s1 => wpAny (model X.prog X.w) X.A (call (.builtin "any") [v]) (EP X pins σ Q) X.xe s1) X.xe s := by
  have hfree : ∀ y ∈ scope.names, y.2 = .free → ∃ c, X.env.cells.lookup y.1 = some c := fun y hy e => by
    rcases ok.free y hy e with k | k
    · exact I.ok.has _ (.inl k)
    · exact I.ok.has _ (.inr k)
  refine wpAny_GeneratorExp_make hco (closure_ok hfree) hcell h0 ok.kind hroom (thn (hi pins s σ H _ I h) fun xv s1 hx => thn hx fun itv s2 h2 => ?_) hs
  obtain ⟨it, fp, tn, J, H2, e, I2, T, st2, f2, tb, n₀, pz, tr, W, Wa, hw, w0, hq⟩ := h2
  subst e
  refine ⟨I2.nolimit, thn (hcode s2 H2 I2 tb) fun code s3 ⟨I3, k3⟩ => hbi s3 H2 _ I3 fun h' hn' hs' => ?_⟩
  have sz : ∀ b ∈ fp, b < s3.heap.objs.size := fun b hb => by
    obtain ⟨o, e, _⟩ := T.obj _ _ st2 b hb
    exact Heap.lt_size (k3 b o (fun u z => by rw [(f2 b hb).1] at z; cases z) e)
  have st3 : tn 0 s3.heap := T.keep _ _ _ st2 fun b hb o e => k3 b o (fun u z => by rw [(f2 b hb).1] at z; cases z) e
  generalize hge : genEnv scope (cloFrom X.env.cells scope.names []) s3.heap.objs.size code builtinsNs X.env = genv
  have hA : (genA X.A elt tg iter ifs scope pos it genv).frames = some (genv :: X.stack) := by
    show pushEnvs [genv] X.A.frames = _
    rw [I.ok.frames]; rfl
  have hh : (genA X.A elt tg iter ifs scope pos it genv).handled = none := I.ok.hd hc
  have I5 := gen_start (A' := genA X.A elt tg iter ifs scope pos it genv) (it := .ref it) (code := code) (h' := h') (go := genObj s3.gens.size (X.env.qual ++ "<genexpr>") (s3.toks + 1) (s3.toks + 1 + 1)) (tk := s3.toks + 1 + 1 + 1) I3 ok hcell hN (fun b hb => ⟨f2 b hb, sz b hb⟩) hh (by rw [hge]; exact hA) hn' hs' (fun v z => nomatch z) rfl
  rw [hge] at I5
  have d1 : (genA X.A elt tg iter ifs scope pos it genv).depth ≤ X.A.depth + 1 := Nat.le_of_eq rfl
  have d2 : (genA X.A elt tg iter ifs scope pos it genv).units ≤ X.A.units + 8 := by
    have e : (genA X.A elt tg iter ifs scope pos it genv).units = X.A.units + 1 + 1 + 3 := rfl
    rw [e]; omega
  have hsz : h'.objs.size = s3.heap.objs.size + 1 := by rw [hs'.1, Heap.size_push]
  generalize hgo : genObj s3.gens.size (X.env.qual ++ "<genexpr>") (s3.toks + 1) (s3.toks + 1 + 1) = go at I5
  have kp : ∀ b o, s3.heap.get? b = some o → (h'.push go).get? b = some o := fun b o e => Heap.get?_push_of_some _ (hs'.extBut b o (Nat.ne_of_lt (Heap.lt_size e)) (Heap.get?_push_of_some _ e))
  have pg := hg (genA X.A elt tg iter ifs scope pos it genv) { s3 with gens := s3.gens.push .running } H2 s3.heap.objs.size code fp [(h'.objs.size, go)] d1 d2 hh
  have pt := ht (genA X.A elt tg iter ifs scope pos it genv) { s3 with gens := s3.gens.push .running } H2 s3.heap.objs.size code fp [(h'.objs.size, go)] d1 d2 hh
  have pe := he (genA X.A elt tg iter ifs scope pos it genv) { s3 with gens := s3.gens.push .running } H2 s3.heap.objs.size code fp [(h'.objs.size, go)] d1 d2 hh
  rw [hge] at pg pt pe
  have TG := turnG_of (Y := cxGen X (genA X.A elt tg iter ifs scope pos it genv) { s3 with gens := s3.gens.push .running } H2 scope genv fp [(h'.objs.size, go)]) (σw := wipe σ (own.map (·.2))) (tn := tn) (fp := fp) (it := it) (elt := elt) (tg := tg) (ifs := ifs) hc rfl
    (fun b hb p hp z => by
      have e : p = (h'.objs.size, go) := by simpa using hp
      have q := sz b hb
      rw [← z, e] at q
      have q : h'.objs.size < s3.heap.objs.size := q
      rw [hsz] at q
      exact absurd (Nat.lt_of_succ_lt q) (Nat.lt_irrefl _)) rfl T pg pt pe hw
  have jk := jok_of (X := X) (A' := genA X.A elt tg iter ifs scope pos it genv) (s4 := s3) (H := H2) (scope := scope) (genv := genv) (fp := fp) (a := h'.objs.size) (q := X.env.qual ++ "<genexpr>") (t1 := s3.toks + 1) (t2 := s3.toks + 1 + 1) (σw := wipe σ (own.map (·.2))) (tn := tn) hw.wa
  rw [hgo] at jk
  have hroom1 : X.A.in1.depth < recursionLimit := hroom
  have WG := walksG_gen (prog := X.prog) (w := X.w) (A := X.A.in1) (sp := tr) (pz := pz) (n₀ := n₀) (F := fun i y => y = .bool (tr i)) (I.ok.hd hc) hroom1 jk
  have hps : ∀ x y : GenState, (s3.gens.push x).setIfInBounds s3.gens.size y = s3.gens.push y := fun x y => by
    apply Array.ext_getElem?
    intro i
    rw [Array.getElem?_setIfInBounds]
    by_cases z : s3.gens.size = i
    · subst z; simp
    · rw [if_neg z, Array.getElem?_push, Array.getElem?_push, if_neg (Ne.symm z), if_neg (Ne.symm z)]
  have j0 : gJ (cxGen X (genA X.A elt tg iter ifs scope pos it genv) { s3 with gens := s3.gens.push .running } H2 scope genv fp [(h'.objs.size, go)]) (wipe σ (own.map (·.2))) fp tn W 0 { s3 with gens := s3.gens.push .running, toks := s3.toks + 1 + 1 + 1, heap := h'.push go } :=
    ⟨H2, I5, T.keep _ _ _ st3 fun b _ o e => kp b o e, fun b hb => (f2 b hb).1, w0⟩
  have isg : (h'.push go).IsGen h'.objs.size s3.gens.size := (jk.gen 0 _ (jk.sub 0 _ j0)).1
  subst hgo
  refine call_any_walkG (wpAny_pyIter_gen isg ⟨rfl, WG, ?_, ?_, fun s' hf _ => ?_⟩)
  · refine ⟨_, Array.getElem?_push_size .., rfl, ?_, fun s'' j'' => ⟨rfl, ?_⟩⟩
    · show gJ _ _ _ _ _ 0 { s3 with gens := (s3.gens.push _).setIfInBounds s3.gens.size .running, toks := _, heap := _ }
      rw [hps]
      exact j0
    · exact seg_genStartG (fun _ => trivial) (fun _ _ _ _ _ => trivial) (by show genv.scope.isCoroutine = false; rw [← hge]; exact hco) TG (fun A'' s9 Q9 E9 ⟨_, _, t9, _⟩ q9 => T.self A'' 0 s9 Q9 E9 t9 q9) s'' j''
  · rintro j v s9 Q9 E9 ⟨i, hi, rfl⟩ q9
    have sy : spY pz n₀ tr j = tr i := by unfold spY; rw [hi]
    rw [sy] at q9
    exact wpAny_truthy_bool q9
  · obtain ⟨H', I', wa⟩ := gen_back (pins := pins) (σ := σ) I3 f2 hf
    exact ⟨.bl _, H', I', rfl, hq H' wa⟩
theorem TabAt.stay {P : Addr} {h1 h2 : Heap} (x : TabAt P h1) (k : ∀ o, h1.get? P = some o → h2.get? P = some o) : TabAt P h2 := let ⟨ps, e, r⟩ := x; ⟨ps, k _ e, r⟩
theorem code_ok {X : Cx} {pins : List (Addr × Obj)} {σ : L2.St} {H : Hp} {s : Shared} {c P : Addr} {pos : Pos} {q : Str} {scope : Scope} (I : Inv X pins σ H s) (hc : X.env.code = .ref c) (ck : CodeK X.K c P) (tb : H P = some (tabO P)) :
    wpAny (model X.prog X.w) X.A (genexprCode X.env pos q scope) (fun _ s3 => Inv X pins σ H s3 ∧ ∀ b o, (∀ u, H b = some u → False) → s.heap.get? b = some o → s3.heap.get? b = some o) X.xe s := by
  obtain ⟨o, vs, file, tf, flags, tg, inF, text, tt, ho, hcl, hd, h11', h11, h2, h7, h9, h10⟩ := ck.at'
  obtain ⟨⟨ps, hop, htr⟩, _, _⟩ := I.hok P _ tb
  have hok : s.heap.IsCode c P ps := ⟨o, vs, file, tf, flags, tg, inF, text, tt, _, I.kIn c o ho, hd, h11, h2, h7, h9, h10, hop, rfl, htr, ck.ne⟩
  have htab : s.heap.TableAt c P ps := ⟨⟨o, vs, I.kIn c o ho, hcl, hd, h11'⟩, hop⟩
  cases hnf : codeAmong pos ps.toList with
  | some cv => exact wpAny_genexprCode_hit hc hok hnf ⟨I, fun b o _ e => e⟩
  | none =>
    refine wpAny_genexprCodeX hc hok htab hnf fun c' h' tk hx _ _ hk _ ht _ => ?_
    obtain ⟨_, _, _, _, _, _, _, _, _, op', _, _, _, _, _, _, _, e', d', t', _⟩ := hk
    have J := I.write (x := P) (e := P) (o := tabO P) (t' := tk) (h' := h') (by rw [tb]; exact trivial) (.inl rfl) (fun b u hb e => hx b u hb e) ⟨_, e'⟩ ⟨⟨_, ht.2, t'⟩, ⟨_, e'⟩, fun h1 h2 a k => a.stay k⟩
    have eq : upd H P (tabO P) = H := by
      funext b
      by_cases z : b = P
      · rw [z, upd_same, tb]
      · exact upd_ne z
    rw [eq] at J
    exact ⟨J, fun b o hb e => hx b o (fun z => hb (tabO P) (by rw [z]; exact tb)) e⟩
theorem bi_ok {X : Cx} {pins : List (Addr × Obj)} {σ : L2.St} {H : Hp} {s : Shared} {bm : Addr} {Q : Addr → Shared → Prop} (I : Inv X pins σ H s) (bk : BiB X.base X.mg bm) (h : Q builtinsNs s) : wpAny (model X.prog X.w) X.A (builtinsFor X.env.globals X.env.builtins) Q X.xe s := by
  obtain ⟨o, ho, h1, h2, h3⟩ := bk.at'
  rw [I.ok.glob]
  exact wpAny_builtinsFor (I.mod.glob.keeps I.bk) bk.mg' bk.ne (I.bk bm o ho) h1 h2 h3 h
theorem pe_anyG {X : Cx} {elt tg iter : Expr} {ifs : List Expr} {scope : Scope} {own : List (Str × Nat)} {pos cpos p : Pos} {wi : TI} {g : L2.TG} {tt : TT} {te : TE} {c P bm : Addr}
    (hc : X.calm = true) (hN : X.N.Nodup) (hi : PI X tg iter wi) (ok : BlkOk X.N X.env.scope scope own) (hcell : ∀ y ∈ scope.names, y.2 ≠ .cell) (hco : scope.isCoroutine = false) (h0 : scope.names.lookup (".0" : Str) = some NameKind.local) (hroom : X.A.depth < recursionLimit)
    (hg : ∀ (A' : Around) (s : Shared) (H : Hp) (C : Addr) (code : Value) (fp : List Addr) (pn : List (Addr × Obj)), A'.depth ≤ X.A.depth + 1 → A'.units ≤ X.A.units + 8 → A'.handled = none → PG (cxGen X A' s H scope (genEnv scope (cloFrom X.env.cells scope.names []) C code builtinsNs X.env) fp pn) tg g)
    (ht : ∀ (A' : Around) (s : Shared) (H : Hp) (C : Addr) (code : Value) (fp : List Addr) (pn : List (Addr × Obj)), A'.depth ≤ X.A.depth + 1 → A'.units ≤ X.A.units + 8 → A'.handled = none → PTs (cxGen X A' s H scope (genEnv scope (cloFrom X.env.cells scope.names []) C code builtinsNs X.env) fp pn) ifs tt)
    (he : ∀ (A' : Around) (s : Shared) (H : Hp) (C : Addr) (code : Value) (fp : List Addr) (pn : List (Addr × Obj)), A'.depth ≤ X.A.depth + 1 → A'.units ≤ X.A.units + 8 → A'.handled = none → PE (cxGen X A' s H scope (genEnv scope (cloFrom X.env.cells scope.names []) C code builtinsNs X.env) fp pn) elt te)
    (hs : ∀ x, genFold iter X.env x = pure x) (hcd : X.env.code = .ref c) (ck : CodeK X.K c P) (bk : BiB X.base X.mg bm) (hgl : Gl X "any") (hm : X.mg "any" = none) :
    PE X (.Call (.Name "any" p) [.GeneratorExp elt [⟨tg, iter, ifs, 0⟩] scope pos] [] cpos) (tAny wi g tt te (own.map (·.2)) fun H => H P = some (tabO P)) := by
  intro pins s σ H Q I h
  refine wpAny_Call_Name_kw (ld_blt I hgl hm (by decide +kernel : bootBuiltins "any" = some (.builtin "any")) ?_ (by decide) (by decide))
  refine PyProof.Rows.callWith_builtin1 ?_ rfl rfl
  refine Calls.spliced_cons (thn (any_core hc hN I hi ok hcell hco h0 hroom hg ht he hs (fun s H I tb => code_ok I hcd ck tb) (fun s H Q I q => bi_ok I bk q) h) fun v s1 h1 => ?_)
  exact Calls.spliced_nil h1
end Nf
set_option linter.all false
set_option maxRecDepth 100000
set_option autoImplicit false
set_option maxHeartbeats 4000000
namespace Nf
open PySem PySem.Spec PyProof.Rows L2
def bitD (t : Tg) (f : En → R) (s : En) (o : Option D) : Bool := match o with
  | some x => match putT t x s with
    | some s1 => match f s1 with
      | .ok (.bl b) => b
      | _ => false
    | none => false
  | none => false
theorem bitD_eq {t : Tg} {f : En → R} {s s1 : En} {x : D} {b : Bool} (e1 : putT t x s = some s1) (e2 : f s1 = .ok (.bl b)) : bitD t f s (some x) = b := by
  unfold bitD
  simp only [e1, e2]
theorem anL_eq {t : Tg} {test elt : En → R} {s : En} : ∀ {l : List D} {b : Bool}, anL t test elt s l = .ok (.bl b) → b = l.any fun x => bitD t test s (some x) && bitD t elt s (some x)
  | [], b, h => by cases h; rfl
  | x :: r, b, h => by
    have h : lcO (putT t x s) (fun s1 => anB (test s1) (elt s1) (anL t test elt s r)) = .ok (.bl b) := h
    rw [List.any_cons]
    cases ep : putT t x s with
    | none => rw [ep] at h; cases h
    | some s1 =>
      rw [ep] at h
      have h : anB (test s1) (elt s1) (anL t test elt s r) = .ok (.bl b) := h
      unfold anB at h
      split at h
      · rename_i et
        rw [bitD_eq ep et]
        split at h
        · rename_i ee
          cases h
          rw [bitD_eq ep ee]; rfl
        · rename_i ee
          rw [bitD_eq ep ee]
          exact anL_eq h
        · cases h
      · rename_i et
        rw [bitD_eq ep et]
        exact anL_eq h
      · cases h
theorem range_any {α : Type} (f : Nat → Bool) (g : α → Bool) : ∀ (l : List α), (∀ i x, l[i]? = some x → f i = g x) → (List.range l.length).any f = l.any g := fun l h => by
  rw [Bool.eq_iff_iff, List.any_eq_true, List.any_eq_true]
  constructor
  · rintro ⟨i, hi, hf⟩
    have hi := List.mem_range.mp hi
    exact ⟨l[i], List.getElem_mem hi, by rw [← h i _ (List.getElem?_eq_getElem hi)]; exact hf⟩
  · rintro ⟨x, hx, hg⟩
    obtain ⟨i, hi, e⟩ := List.getElem_of_mem hx
    exact ⟨i, List.mem_range.mpr hi, by rw [h i x (by rw [List.getElem?_eq_getElem hi, e])]; exact hg⟩
theorem spY_any (pz tr : Nat → Bool) (n : Nat) : (List.range (passing pz n 0).length).any (spY pz n tr) = (List.range n).any fun i => pz i && tr i := by
  rw [range_any (spY pz n tr) tr (passing pz n 0) fun i x e => by unfold spY; rw [e]]
  unfold passing
  rw [List.drop_zero, List.any_filter]
section
variable {P : Px}
theorem any_D {t : Tg} {it : En → RL} {test elt : En → R} {σ : L2.St} {H : Hp} {Q : VK} {own : List Nat} {Tb : Hp → Prop} (ho : own = t.ix) (htb : ∀ F H' F', Grow H F H' F' → Tb H') (h : tD P (fun s => bndL (it s) fun xs => anL t test elt (Nf.wip (Nf.cln s) t.ix) xs) σ H Q) :
    tAny (tI P it) (gTg P.X.K t) (tB' (tIn P test)) (tIn P elt) own Tb σ H Q := by
  subst ho
  obtain ⟨F, s, l, q⟩ := h
  have q : RQ P s H F (bndL (it s) fun xs => anL t test elt (Nf.wip (Nf.cln s) t.ix) xs) Q := q
  refine ⟨F, s, l, ?_⟩
  cases eit : it s with
  | exn d => rw [eit] at q; exact q
  | bad => rw [eit] at q; exact q
  | ok xs =>
    rw [eit] at q
    have q : RQ P s H F (anL t test elt (Nf.wip (Nf.cln s) t.ix) xs) Q := q
    intro J H1 F1 g1 gv
    have hn0 : NoOwn (Nf.wip (Nf.cln s) t.ix) := wip_no (cln_no s) _
    generalize hs0 : Nf.wip (Nf.cln s) t.ix = s0 at q hn0
    refine ⟨htb F H1 F1 g1, xs.length, fun i => bitD t test s0 xs[i]?, fun i => bitD t elt s0 xs[i]?, fun i H' => i ≤ xs.length ∧ ∃ F', Grow H F H' F' ∧ Keep H1 F1 H' F' ∧ RQ P s H F (anL t test elt s0 (xs.drop i)) Q, fun H' => ∃ F', Grow H F H' F', ?_, ⟨Nat.zero_le _, F1, g1, Keep.refl _ _, q⟩, fun H' ⟨F', g'⟩ => ?_⟩
    · constructor
      · rintro H' ⟨_, F', g', k', _⟩
        exact gv.stop H' F' k'
      · rintro i H' ⟨_, F', g', _⟩
        exact ⟨F', g'⟩
      · rintro i H' hlt ⟨_, F', g', k', _⟩
        exact (gv.go i _ H' F' k' g'.dom (List.getElem?_eq_getElem hlt)).1
      · rintro i H' hlt ⟨_, F', g', k', q'⟩ x H2 yx
        have hd : xs.drop i = xs[i] :: xs.drop (i + 1) := List.drop_eq_getElem_cons hlt
        obtain ⟨F2, gy, r⟩ := (gv.go i _ H' F' k' g'.dom (List.getElem?_eq_getElem hlt)).2 x H2 yx
        replace g' := g'.trans gy
        replace k' := k'.trans gy.keep
        rw [hd] at q'
        have q' : RQ P s H F (lcO (putT t xs[i] s0) fun s1 => anB (test s1) (elt s1) (anL t test elt s0 (xs.drop (i + 1)))) Q := q'
        rw [List.getElem?_eq_getElem hlt]
        cases ep : putT t xs[i] s0 with
        | none => rw [ep] at q'; exact (show False from q').elim
        | some s1 =>
          rw [ep] at q'
          have q' : RQ P s H F (anB (test s1) (elt s1) (anL t test elt s0 (xs.drop (i + 1)))) Q := q'
          have n1 : NoOwn s1 := putT_no hn0 ep
          have l0 : Rl (inP P H2 F2) H2 F2 (wipe σ t.ix) s0 := by rw [← hs0]; exact Rl.re (P' := P) ((l.cln).wip (cln_no s) _) ⟨rfl, rfl, rfl⟩ (by rw [hs0]; exact hn0) g'
          refine put_tgW (P := inP P H2 F2) l0 r ep fun σ2 l2 w2 => ⟨by rw [w2, wipe_wipe], F2, s1, l2, ?_⟩
          unfold anB at q'
          split at q'
          · rename_i et
            rw [et, bitD_eq ep et]
            intro v H3 F3 g3 r3
            cases r3
            refine ⟨true, rfl, rfl, fun z => (by cases z), fun _ => ?_⟩
            have l3 : Rl (inP P H3 F3) H3 F3 σ2 s1 := Rl.re (P' := inP P H2 F2) l2 ⟨rfl, rfl, rfl⟩ n1 g3
            refine ⟨F3, s1, l3, ?_⟩
            split at q'
            · rename_i ee
              rw [ee, bitD_eq ep ee]
              intro y H4 F4 g4 r4
              cases r4
              exact ⟨rfl, ⟨F4, (g'.trans g3).trans g4⟩, fun z => (by cases z)⟩
            · rename_i ee
              rw [ee, bitD_eq ep ee]
              intro y H4 F4 g4 r4
              cases r4
              exact ⟨rfl, ⟨F4, (g'.trans g3).trans g4⟩, fun _ => ⟨hlt, F4, (g'.trans g3).trans g4, (k'.trans g3.keep).trans g4.keep, q'⟩⟩
            · exact (show False from q').elim
          · rename_i et
            rw [et, bitD_eq ep et]
            intro v H3 F3 g3 r3
            cases r3
            exact ⟨false, rfl, rfl, fun _ => ⟨hlt, F3, g'.trans g3, k'.trans g3.keep, q'⟩, fun z => (by cases z)⟩
          · exact (show False from q').elim
    · have ex : ∃ b, anL t test elt s0 xs = .ok (.bl b) := by
        have key : ∀ l : List D, RQ P s H F (anL t test elt s0 l) Q → ∃ b, anL t test elt s0 l = .ok (.bl b) := by
          intro l
          induction l with
          | nil => exact fun _ => ⟨false, rfl⟩
          | cons x r ih =>
            intro q
            have q : RQ P s H F (lcO (putT t x s0) fun s1 => anB (test s1) (elt s1) (anL t test elt s0 r)) Q := q
            show ∃ b, lcO (putT t x s0) (fun s1 => anB (test s1) (elt s1) (anL t test elt s0 r)) = .ok (.bl b)
            cases ep : putT t x s0 with
            | none => rw [ep] at q; exact (show False from q).elim
            | some s1 =>
              rw [ep] at q
              have q : RQ P s H F (anB (test s1) (elt s1) (anL t test elt s0 r)) Q := q
              show ∃ b, anB (test s1) (elt s1) (anL t test elt s0 r) = .ok (.bl b)
              unfold anB at q ⊢
              split at q
              · split at q
                · exact ⟨true, rfl⟩
                · exact ih q
                · exact (show False from q).elim
              · exact ih q
              · exact (show False from q).elim
        exact key xs q
      obtain ⟨b, eb⟩ := ex
      rw [eb] at q
      have e := anL_eq eb
      rw [spY_any, range_any _ (fun x => bitD t test s0 (some x) && bitD t elt s0 (some x)) xs (fun i x e => by rw [e]), ← e]
      exact q _ H' F' g' (.bl b)
end
end Nf
set_option linter.all false
set_option maxRecDepth 100000
set_option autoImplicit false
namespace Nf
open PySem PySem.Spec PyProof.Rows
section
variable {prog : Program} {w : World} {A : Around} {Rr : Result → Shared → Prop} {I : Addr} {n : Nat} {P : Nat → Value → Prop} {sp : Nat → Bool} {St : Nat → Shared → Prop} {Fn : Shared → Prop} {R : Shared → Shared → Prop}
theorem codeAny_sum_loopG (W : WalksG prog w A.in1 I n P sp St Fn R) (hsp : ∀ i, sp i = false) (val : Nat → Int) (hval : ∀ i v, P i v → ∃ t, v = .int (val i) t) (S : Addr)
    (hRS : ∀ s s' o, R s s' → s.heap.get? S = some o → s'.heap.get? S = some o)
    (fr : ∀ i s h' tk o', St i s → (∀ b o, b ≠ S → s.heap.get? b = some o → h'.get? b = some o) → h'.get? S = some o' → (∀ v, o'.data ≠ .cell v) → St i { s with heap := h', toks := tk }) :
    ∀ (k i : Nat) (s : Shared) (tA : Tok) (c : Nat) (st : Int), (st = 0 ∨ st = 2) → n - i = k → i ≤ n → St i s → s.heap.get? S = some { cls := .type "list", dict := none, data := .seq #[.int (preSum val i) tA] c, slots := #[] } →
    (∀ s' t', Fn s' → Rr (.ok (.ret (.int (preSum val n) t'))) s') → codeAny (model prog w) A (.builtin "sum.loop" ⟨[.ref I, .ref S, rawInt st, rawInt 0], []⟩) Rr s := by
  intro k
  induction k with
  | zero =>
    intro i s tA c st hst2 hk hi hst hS hR
    have hin : i = n := by omega
    subst hin
    refine codeAny_builtin F.entry_sum_loop ?_
    rw [Around.under_plainId F.plain_sum_loop _]
    show wpAny _ A.in1 (seqItems? (.ref S) >>= _) _ _ s
    refine wpAny_bind (wpAny_seqItems hS rfl ?_)
    show wpAny _ A.in1 (tryCatch (pyNext (.ref I)) _ >>= _) _ _ s
    refine wpAny_bind (wpAny_tryCatch (W.done s _ _ hst fun s' hf hm => ?_))
    exact wpAny_pure (hR s' tA hf)
  | succ k ih =>
    intro i s tA c st hst2 hk hi hst hS hR
    have hlt : i < n := by omega
    refine codeAny_builtin F.entry_sum_loop ?_
    rw [Around.under_plainId F.plain_sum_loop _]
    show wpAny _ A.in1 (seqItems? (.ref S) >>= _) _ _ s
    refine wpAny_bind (wpAny_seqItems hS rfl ?_)
    show wpAny _ A.in1 (tryCatch (pyNext (.ref I)) _ >>= _) _ _ s
    refine wpAny_bind (wpAny_tryCatch (W.item i s _ _ hlt hst fun v s' hP hfn hst' hm => ?_))
    have hst' := hst' (hsp i)
    obtain ⟨t, rfl⟩ := hval i v hP
    have hS' := hRS _ _ _ hm hS
    rcases hst2 with rfl | rfl
    · show wpAny _ A.in1 (if (_ : Bool) = true then (mkInt (preSum val i + val i) >>= _) else _) _ _ _
      split
      · refine wpAny_bind (wpAny_mkInt ?_)
        show wpAny _ A.in1 (updateSeq S (fun _ => #[.int (preSum val i + val i) s'.toks]) >>= _) _ _ _
        refine wpAny_bind ?_
        refine wpAny_updateSeq hS' rfl (wpAny_pure ⟨plainId_quiet F.plain_sum_loop _, ih (i + 1) _ s'.toks _ 0 (.inl rfl) (by omega) hlt (fr _ s' _ _ _ hst' (fun b o hb e => ?_) (Heap.get?_update_self _ hS' rfl) (fun v z => nomatch z)) (Heap.get?_update_self _ hS' rfl) hR⟩)
        exact (Heap.get?_update_other _ _ (Ne.symm hb)).trans e
      · refine wpAny_bind (wpAny_rule ?_)
        refine wpAny_bind (wpAny_attempt (wpAny_holding (wpAny_add_int ?_)))
        show wpAny _ A.in1 (updateSeq S (fun _ => #[.int (preSum val i + val i) s'.toks]) >>= _) _ _ _
        refine wpAny_bind (wpAny_updateSeq hS' rfl ?_)
        have hS₂ := Heap.get?_update_self (Obj.mapSeq fun _ => #[Value.int (preSum val i + val i) s'.toks]) hS' rfl
        refine wpAny_bind (wpAny_letGo ?_)
        refine wpAny_bind (wpAny_updateSeq hS₂ rfl (wpAny_pure ⟨plainId_quiet F.plain_sum_loop _, ih (i + 1) _ s'.toks _ 2 (.inr rfl) (by omega) hlt (fr _ s' _ _ _ hst' (fun b o hb e => ?_) (Heap.get?_update_self _ hS₂ rfl) (fun v z => nomatch z)) (Heap.get?_update_self _ hS₂ rfl) hR⟩))
        exact (Heap.get?_update_other _ _ (Ne.symm hb)).trans ((Heap.get?_update_other _ _ (Ne.symm hb)).trans e)
    · show wpAny _ A.in1 ((holding [Value.int (val i) t] (binaryOp .Add (.int (preSum val i) tA) (.int (val i) t))).attempt >>= _) _ _ _
      refine wpAny_bind (wpAny_attempt (wpAny_holding (wpAny_add_int ?_)))
      show wpAny _ A.in1 (updateSeq S (fun _ => #[.int (preSum val i + val i) s'.toks]) >>= _) _ _ _
      refine wpAny_bind (wpAny_updateSeq hS' rfl ?_)
      have hS₂ := Heap.get?_update_self (Obj.mapSeq fun _ => #[Value.int (preSum val i + val i) s'.toks]) hS' rfl
      refine wpAny_bind (wpAny_letGo ?_)
      refine wpAny_bind (wpAny_updateSeq hS₂ rfl (wpAny_pure ⟨plainId_quiet F.plain_sum_loop _, ih (i + 1) _ s'.toks _ 2 (.inr rfl) (by omega) hlt (fr _ s' _ _ _ hst' (fun b o hb e => ?_) (Heap.get?_update_self _ hS₂ rfl) (fun v z => nomatch z)) (Heap.get?_update_self _ hS₂ rfl) hR⟩))
      exact (Heap.get?_update_other _ _ (Ne.symm hb)).trans ((Heap.get?_update_other _ _ (Ne.symm hb)).trans e)
theorem call_sum_walkG {E : Value → Shared → Prop} {s : Shared} {x : Value} {Q : Value → Shared → Prop} {val : Nat → Int}
    (h : wpAny (model prog w) A.in1 (pyIter x) (fun it s₂ => it = .ref I ∧ ∃ (sp : Nat → Bool) (St : Nat → Shared → Prop) (Fn : Shared → Prop) (R : Shared → Shared → Prop), WalksG prog w A.in1 I n P sp St Fn R ∧ (∀ i, sp i = false) ∧ (∀ i v, P i v → ∃ t, v = .int (val i) t) ∧
      (∀ s s' o, R s s' → s.heap.get? s₂.heap.objs.size = some o → s'.heap.get? s₂.heap.objs.size = some o) ∧
      (∀ i s h' tk o', St i s → (∀ b o, b ≠ s₂.heap.objs.size → s.heap.get? b = some o → h'.get? b = some o) → h'.get? s₂.heap.objs.size = some o' → (∀ v, o'.data ≠ .cell v) → St i { s with heap := h', toks := tk }) ∧ (∀ o, o.isFreed = false → (∀ v, o.data ≠ .cell v) → St 0 { s₂ with heap := s₂.heap.push o, toks := s₂.toks + 1 }) ∧ ∀ s' t', Fn s' → Q (.int (preSum val n) t') s') E s) :
    wpAny (model prog w) A (call (.builtin "sum") [x]) Q E s := by
  refine call_function_tree F.kind_sum F.plain_sum F.entry_sum (F.args_sum1 _) ?_
  unfold Builtin.«sum»
  simp only [List.length_cons, List.length_nil]
  rw [if_neg (by decide)]
  refine wpAny_bind (wpAny_of_eq (show Builtin.Builtins.bindParams "sum" ["start"] 0 { } = pure [none] from rfl) ?_)
  refine wpAny_bind (wpAny_mono h (fun it s₂ h₂ => ?_) fun _ _ e => e)
  obtain ⟨rfl, sp, St, Fn, R, W, hsp, hval, hRS, fr, hst, hQ⟩ := h₂
  refine wpAny_bind (wpAny_mkInt ?_)
  refine wpAny_bind (wpAny_pure ?_)
  simp only [List.forIn_cons, List.forIn_nil]
  refine wpAny_bind (wpAny_bind (wpAny_bind (wpAny_isInstance (T := "int") (b := false) (typeIs_int _ _ _) PySem.sub_int_str ?_)))
  simp only [Bool.false_eq_true, if_false]
  refine wpAny_pure (wpAny_bind (wpAny_bind (wpAny_isInstance (T := "int") (b := false) (typeIs_int _ _ _) PySem.sub_int_bytes ?_)))
  simp only [Bool.false_eq_true, if_false]
  refine wpAny_pure (wpAny_bind (wpAny_bind (wpAny_isInstance (T := "int") (b := false) (typeIs_int _ _ _) PySem.sub_int_bytearray ?_)))
  simp only [Bool.false_eq_true, if_false]
  refine wpAny_pure (wpAny_pure ?_)
  refine wpAny_bind (wpAny_newObj_type ?_)
  exact wpAny_pure ⟨plainId_quiet F.plain_sum_loop _, codeAny_sum_loopG W hsp val hval s₂.heap.objs.size hRS fr n 0 _ s₂.toks 0 0 (.inl rfl) rfl (Nat.zero_le _)
    (hst _ rfl fun v z => nomatch z) (Heap.get?_push_size _ rfl) hQ⟩
end
end Nf
set_option linter.all false
set_option maxRecDepth 100000
set_option autoImplicit false
set_option maxHeartbeats 4000000
namespace Nf
open PySem PySem.Spec PyProof.Rows L2
structure SumW (J : L2.It) (g : L2.TG) (tt : TT) (te : TE) (σw : L2.St) (own : List Nat) (n₀ : Nat) (pz : Nat → Bool) (val : Nat → Int) (W : Nat → Hp → Prop) (Wa : Hp → Prop) : Prop where
  stop : ∀ H, W n₀ H → J.stop n₀ H
  wa : ∀ i H, W i H → Wa H
  go : ∀ i H, i < n₀ → W i H → J.go i H
  step : ∀ i H, i < n₀ → W i H → ∀ x H', J.yld i H x H' → g x σw H' fun σ2 H2 => wipe σ2 own = σw ∧ tt σ2 H2 fun b H3 => b = pz i ∧ (pz i = false → W (i + 1) H3) ∧ (pz i = true → te σ2 H3 fun y H4 => y = .int (val i) ∧ W (i + 1) H4)
def gJs (Y : Cx) (σw : L2.St) (fp : List Addr) (S : Addr) (tn : Nat → Heap → Prop) (W : Nat → Hp → Prop) (i : Nat) (s : Shared) : Prop := ∃ H', Inv Y [] σw H' s ∧ tn i s.heap ∧ (∀ b ∈ fp, H' b = none) ∧ H' S = none ∧ (∃ o, s.heap.get? S = some o ∧ ∀ v, o.data ≠ .cell v) ∧ W i H'
def Skp (S : Addr) (s s' : Shared) : Prop := ∀ o, s.heap.get? S = some o → s'.heap.get? S = some o
structure SOk (Y : Cx) (fp : List Addr) (S : Addr) : Prop where
  loc : S ≠ Y.env.locals
  fs : S ∉ Y.fs
  up : Y.s_0.heap.objs.size ≤ S
  cells : ∀ x c, Y.env.cells.lookup x = some c → c ≠ S
  pn : ∀ p ∈ Y.pn, p.1 ≠ S
  fp : S ∉ fp
theorem turnG_sum {Y : Cx} {elt tg : Expr} {ifs : List Expr} {it S : Addr} {fp : List Addr} {tn : Nat → Heap → Prop} {J : L2.It} {g : L2.TG} {tt : TT} {te : TE} {σw : L2.St} {own : List Nat} {n₀ : Nat} {pz : Nat → Bool} {val : Nat → Int} {W : Nat → Hp → Prop} {Wa : Hp → Prop}
    (hc : Y.calm = true) (hex : Y.ex = fp) (hpn : ∀ b ∈ fp, ∀ p ∈ Y.pn, p.1 ≠ b) (hxe : Y.xe = fun _ _ => False) (so : SOk Y fp S) (T : Turn Y.prog Y.w Y.K tg J fp it tn) (pg : PG Y tg g) (pt : PTs Y ifs tt) (pe : PE Y elt te) (hw : SumW J g tt te σw own n₀ pz val W Wa) :
    TurnG Y.prog Y.w Y.A elt tg ifs it Y.env n₀ (gJs Y σw fp S tn W) (gJa Y σw Wa) (fun _ => false) (Skp S) pz (fun i y => ∃ t, y = .int (val i) t) := by
  have stat : ∀ {σ' : L2.St} {H' : Hp} {s' : Shared} {o : Obj}, Inv Y [(S, o)] σ' H' s' → (∀ b ∈ fp, H' b = none) → ∀ b ∈ fp, FpOk Y [(S, o)] H' b := fun {σ' H' s' o} I' hn b hb =>
    ⟨hn b hb, (I'.ok.exf b (by rw [hex]; exact hb)).1, I'.ok.exfs b (by rw [hex]; exact hb), .inl (by rw [hex]; exact hb), fun x c e => (I'.ok.exf b (by rw [hex]; exact hb)).2 x c e, fun p hp => by
      rcases List.mem_append.mp hp with hp | hp
      · exact hpn b hb p hp
      · have e : p = (S, o) := by simpa using hp
        rw [e]; exact fun z => so.fp (by rw [show S = b from z]; exact hb)⟩
  have pin1 : ∀ {H' : Hp} {s' : Shared} {o : Obj}, Inv Y [] σw H' s' → H' S = none → s'.heap.get? S = some o → (∀ v, o.data ≠ .cell v) → Inv Y [(S, o)] σw H' s' := fun {H' s' o} I' hn e hd =>
    I'.pins_of fun p hp => by
      have q : p = (S, o) := by simpa using hp
      rw [q]; exact ⟨e, hn, so.loc, so.fs, hd⟩
  unfold PG at pg
  unfold PTs at pt
  unfold PE at pe
  rw [hxe] at pg pt pe
  constructor
  · intro i s5 hi ⟨H5, I5, st5, n5, nS, ⟨oS, eS, dS⟩, w5⟩
    have I5 := pin1 I5 nS eS dS
    have ti := T.item Y rfl rfl rfl hc i [(S, oS)] s5 _ H5 (fun _ _ => False) I5 (stat I5 n5) st5 (hw.go i H5 hi w5)
    refine thnF ti fun r s6 ⟨u, hr, h6⟩ => ⟨u, hr, ?_⟩
    refine thnF h6 fun _ s7 ⟨x, H7, I7, r7, y7, st7, n7⟩ => ?_
    have I7' := I7.pinned (stat I7 n7) (T.obj _ _ st7)
    refine thnF (pg _ s7 _ H7 x u _ I7' r7 (hw.step i H5 hi w5 x H7 y7)) fun _ s8 ⟨σ8, H8, I8, hw8, q8⟩ => ?_
    refine thnF (pt _ s8 σ8 H8 _ I8 q8) fun b s9 ⟨H9, I9, q9⟩ => ?_
    have hl : σw.length = σ8.length := by rw [← hw8, wipe_length]
    have sk : ∀ {s' : Shared} {H' : Hp}, Inv Y ([(S, oS)] ++ pinsAt fp s7.heap) σ8 H' s' → s'.heap.get? S = some oS ∧ H' S = none := fun {s' H'} I' =>
      let z := I'.pin (S, oS) (List.mem_append_right _ (List.mem_append_left _ (List.mem_cons_self ..)))
      ⟨z.1, z.2.1⟩
    have skp : ∀ {s' : Shared} {H' : Hp}, Inv Y ([(S, oS)] ++ pinsAt fp s7.heap) σ8 H' s' → Skp S s5 s' := fun {s' H'} I' o e => by rw [eS] at e; cases e; exact (sk I').1
    have weak : ∀ {s' : Shared} {H' : Hp}, Inv Y ([(S, oS)] ++ pinsAt fp s7.heap) σ8 H' s' → Inv Y [] σw H' s' := fun {s' H'} I' =>
      ((I'.pins_of (pins' := []) fun p hp => nomatch hp)).weak hl fun j v e => by rw [← hw8] at e; exact (wipe_some e).1
    have fin : ∀ {s' : Shared} {H' : Hp}, Inv Y ([(S, oS)] ++ pinsAt fp s7.heap) σ8 H' s' → W (i + 1) H' → gJs Y σw fp S tn W (i + 1) s' := fun {s' H'} I' w' => by
      have pin' : ∀ b ∈ fp, ∀ o, s7.heap.get? b = some o → s'.heap.get? b = some o ∧ H' b = none := fun b hb o e =>
        let z := I'.pin (b, o) (List.mem_append_right _ (List.mem_append_right _ (mem_pinsAt hb e)))
        ⟨z.1, z.2.1⟩
      refine ⟨H', weak I', T.keep _ _ _ st7 fun b hb o e => (pin' b hb o e).1, fun b hb => ?_, (sk I').2, ⟨oS, (sk I').1, dS⟩, w'⟩
      obtain ⟨o, e, _⟩ := T.obj _ _ st7 b hb
      exact (pin' b hb o e).2
    obtain ⟨hb, hf, ht⟩ := q9
    refine ⟨hb, fun z => ⟨fin I9 (hf z), skp I9⟩, fun z => ?_⟩
    refine thnF (pe _ s9 σ8 H9 _ I9 (ht z)) fun y s10 ⟨yv, H10, I10, r10, ey, wn⟩ => ?_
    subst ey
    exact ⟨r10, ⟨H10, weak I10, hw.wa _ _ wn⟩, fun _ => fin I10 wn, skp I10⟩
  · intro s5 ⟨H5, I5, st5, n5, nS, ⟨oS, eS, dS⟩, w5⟩
    have I5 := pin1 I5 nS eS dS
    have td := T.done Y rfl rfl rfl hc n₀ [(S, oS)] s5 _ H5 (fun _ _ => False) I5 (stat I5 n5) st5 (hw.stop H5 w5)
    exact thnF td fun r s6 ⟨hr, I6⟩ => ⟨hr, ⟨H5, I6.pins_of (pins' := []) (fun p hp => by cases hp), hw.wa _ _ w5⟩, fun o e => by
      rw [eS] at e; cases e
      exact (I6.pin (S, oS) (List.mem_append_right _ (List.mem_cons_self ..))).1⟩
theorem jok_sum {X : Cx} {A' : Around} {s4 : Shared} {H : Hp} {scope : Scope} {genv : Env} {fp : List Addr} {a S : Addr} {q : Str} {t1 t2 : Tok} {σw : L2.St} {tn : Nat → Heap → Prop} {W : Nat → Hp → Prop} {Wa : Hp → Prop} (hwa : ∀ i H, W i H → Wa H) :
    JOk (gJs (cxGen X A' { s4 with gens := s4.gens.push .running } H scope genv fp [(a, genObj s4.gens.size q t1 t2)]) σw fp S tn W) (gJa (cxGen X A' { s4 with gens := s4.gens.push .running } H scope genv fp [(a, genObj s4.gens.size q t1 t2)]) σw Wa) (Skp S) a s4.gens.size where
  refl := fun _ _ e => e
  trans := fun _ _ _ x y o e => y o (x o e)
  sub := fun i s ⟨H', I, _, _, _, _, w⟩ => ⟨H', I, hwa i H' w⟩
  gen := fun i s ⟨H', I, _⟩ => by
    have p := I.pin (a, genObj s4.gens.size q t1 t2) (List.mem_append_left _ (List.mem_cons_self ..))
    refine ⟨⟨_, _, _, p.1, rfl, rfl, rfl⟩, I.nolimit, ?_⟩
    have o := I.bare.old s4.gens.size (by show s4.gens.size < (s4.gens.push .running).size; rw [Array.size_push]; exact Nat.lt_succ_self _)
    rw [o]
    exact Array.getElem?_push_size ..
  ext := fun i s h' ⟨H', I, w⟩ k => ⟨⟨H', I.kept (t' := s.toks) k, w⟩, fun o e => k _ o e⟩
def valY (pz : Nat → Bool) (n₀ : Nat) (val : Nat → Int) (j : Nat) : Int := match (passing pz n₀ 0)[j]? with
  | some i => val i
  | none => 0
def tSum (wi : TI) (g : L2.TG) (tt : TT) (te : TE) (own : List Nat) (Tb : Hp → Prop) : TE := fun σ H Q => wi σ H fun J H1 => Tb H1 ∧ ∃ n₀ pz val W Wa, SumW J g tt te (wipe σ own) own n₀ pz val W Wa ∧ W 0 H1 ∧
  ∀ H', Wa H' → Q (.int (preSum (valY pz n₀ val) (passing pz n₀ 0).length)) H'
theorem sum_core {X : Cx} {pins : List (Addr × Obj)} {s : Shared} {σ : L2.St} {H : Hp} {Q : VK} {elt tg iter : Expr} {ifs : List Expr} {scope : Scope} {own : List (Str × Nat)} {pos : Pos} {wi : TI} {g : L2.TG} {tt : TT} {te : TE} {Tb : Hp → Prop}
    (hc : X.calm = true) (hN : X.N.Nodup) (I : Inv X pins σ H s) (hi : PI X tg iter wi) (ok : BlkOk X.N X.env.scope scope own) (hcell : ∀ y ∈ scope.names, y.2 ≠ .cell) (hco : scope.isCoroutine = false) (h0 : scope.names.lookup (".0" : Str) = some NameKind.local) (hroom : X.A.depth < recursionLimit)
    (hg : ∀ (A' : Around) (s : Shared) (H : Hp) (C : Addr) (code : Value) (fp : List Addr) (pn : List (Addr × Obj)), A'.depth ≤ X.A.depth + 1 → A'.units ≤ X.A.units + 8 → A'.handled = none → PG (cxGen X A' s H scope (genEnv scope (cloFrom X.env.cells scope.names []) C code builtinsNs X.env) fp pn) tg g)
    (ht : ∀ (A' : Around) (s : Shared) (H : Hp) (C : Addr) (code : Value) (fp : List Addr) (pn : List (Addr × Obj)), A'.depth ≤ X.A.depth + 1 → A'.units ≤ X.A.units + 8 → A'.handled = none → PTs (cxGen X A' s H scope (genEnv scope (cloFrom X.env.cells scope.names []) C code builtinsNs X.env) fp pn) ifs tt)
    (he : ∀ (A' : Around) (s : Shared) (H : Hp) (C : Addr) (code : Value) (fp : List Addr) (pn : List (Addr × Obj)), A'.depth ≤ X.A.depth + 1 → A'.units ≤ X.A.units + 8 → A'.handled = none → PE (cxGen X A' s H scope (genEnv scope (cloFrom X.env.cells scope.names []) C code builtinsNs X.env) fp pn) elt te)
    (hs : ∀ x, genFold iter X.env x = pure x)
    (hcode : ∀ (s : Shared) (H : Hp), Inv X pins σ H s → Tb H → wpAny (model X.prog X.w) X.A (genexprCode X.env pos (X.env.qual ++ "<genexpr>") scope) (fun _ s3 => Inv X pins σ H s3 ∧ ∀ b o, (∀ u, H b = some u → False) → s.heap.get? b = some o → s3.heap.get? b = some o) X.xe s)
    (hbi : ∀ (s : Shared) (H : Hp) (Q : Addr → Shared → Prop), Inv X pins σ H s → Q builtinsNs s → wpAny (model X.prog X.w) X.A (builtinsFor X.env.globals X.env.builtins) Q X.xe s)
    (h : tSum wi g tt te (own.map (·.2)) Tb σ H Q) :
    wpAny (model X.prog X.w) X.A (eval (.GeneratorExp elt [⟨tg, iter, ifs, 0⟩] scope pos) X.env) (fun v s1 => wpAny (model X.prog X.w) X.A (call (.builtin "sum") [v]) (EP X pins σ Q) X.xe s1) X.xe s := by
  have hfree : ∀ y ∈ scope.names, y.2 = .free → ∃ c, X.env.cells.lookup y.1 = some c := fun y hy e => by
    rcases ok.free y hy e with k | k
    · exact I.ok.has _ (.inl k)
    · exact I.ok.has _ (.inr k)
  refine wpAny_GeneratorExp_make hco (closure_ok hfree) hcell h0 ok.kind hroom (thn (hi pins s σ H _ I h) fun xv s1 hx => thn hx fun itv s2 h2 => ?_) hs
  obtain ⟨it, fp, tn, J, H2, e, I2, T, st2, f2, tb, n₀, pz, val, W, Wa, hw, w0, hq⟩ := h2
  subst e
  refine ⟨I2.nolimit, thn (hcode s2 H2 I2 tb) fun code s3 ⟨I3, k3⟩ => hbi s3 H2 _ I3 fun h' hn' hs' => ?_⟩
  have sz : ∀ b ∈ fp, b < s3.heap.objs.size := fun b hb => by
    obtain ⟨o, e, _⟩ := T.obj _ _ st2 b hb
    exact Heap.lt_size (k3 b o (fun u z => by rw [(f2 b hb).1] at z; cases z) e)
  have st3 : tn 0 s3.heap := T.keep _ _ _ st2 fun b hb o e => k3 b o (fun u z => by rw [(f2 b hb).1] at z; cases z) e
  generalize hge : genEnv scope (cloFrom X.env.cells scope.names []) s3.heap.objs.size code builtinsNs X.env = genv
  have hA : (genA X.A elt tg iter ifs scope pos it genv).frames = some (genv :: X.stack) := by
    show pushEnvs [genv] X.A.frames = _
    rw [I.ok.frames]; rfl
  have hh : (genA X.A elt tg iter ifs scope pos it genv).handled = none := I.ok.hd hc
  have I5 := gen_start (A' := genA X.A elt tg iter ifs scope pos it genv) (it := .ref it) (code := code) (h' := h') (go := genObj s3.gens.size (X.env.qual ++ "<genexpr>") (s3.toks + 1) (s3.toks + 1 + 1)) (tk := s3.toks + 1 + 1 + 1) I3 ok hcell hN (fun b hb => ⟨f2 b hb, sz b hb⟩) hh (by rw [hge]; exact hA) hn' hs' (fun v z => nomatch z) rfl
  rw [hge] at I5
  have d1 : (genA X.A elt tg iter ifs scope pos it genv).depth ≤ X.A.depth + 1 := Nat.le_of_eq rfl
  have d2 : (genA X.A elt tg iter ifs scope pos it genv).units ≤ X.A.units + 8 := by
    have e : (genA X.A elt tg iter ifs scope pos it genv).units = X.A.units + 1 + 1 + 3 := rfl
    rw [e]; omega
  have hsz : h'.objs.size = s3.heap.objs.size + 1 := by rw [hs'.1, Heap.size_push]
  generalize hgo : genObj s3.gens.size (X.env.qual ++ "<genexpr>") (s3.toks + 1) (s3.toks + 1 + 1) = go at I5
  have kp : ∀ b o, s3.heap.get? b = some o → (h'.push go).get? b = some o := fun b o e => Heap.get?_push_of_some _ (hs'.extBut b o (Nat.ne_of_lt (Heap.lt_size e)) (Heap.get?_push_of_some _ e))
  have pg := hg (genA X.A elt tg iter ifs scope pos it genv) { s3 with gens := s3.gens.push .running } H2 s3.heap.objs.size code fp [(h'.objs.size, go)] d1 d2 hh
  have pt := ht (genA X.A elt tg iter ifs scope pos it genv) { s3 with gens := s3.gens.push .running } H2 s3.heap.objs.size code fp [(h'.objs.size, go)] d1 d2 hh
  have pe := he (genA X.A elt tg iter ifs scope pos it genv) { s3 with gens := s3.gens.push .running } H2 s3.heap.objs.size code fp [(h'.objs.size, go)] d1 d2 hh
  rw [hge] at pg pt pe
  generalize hS : (h'.push go).objs.size = S
  have hS1 : S = s3.heap.objs.size + 1 + 1 := by rw [← hS, Heap.size_push, hsz]
  have fpS : FpOk (cxGen X (genA X.A elt tg iter ifs scope pos it genv) { s3 with gens := s3.gens.push .running } H2 scope genv fp [(h'.objs.size, go)]) [] H2 S := I5.fpOk (Nat.le_of_eq hS) (I5.hok.fresh (Nat.le_of_eq hS))
  have so : SOk (cxGen X (genA X.A elt tg iter ifs scope pos it genv) { s3 with gens := s3.gens.push .running } H2 scope genv fp [(h'.objs.size, go)]) fp S :=
    ⟨fpS.2.1, fpS.2.2.1, by show s3.heap.objs.size ≤ S; rw [hS1]; exact Nat.le_trans (Nat.le_succ _) (Nat.le_succ _), fpS.2.2.2.2.1, fun p hp => fpS.2.2.2.2.2 p (List.mem_append_left _ hp), fun z => by
      have q := sz S z
      rw [hS1] at q
      exact absurd (Nat.lt_of_succ_lt (Nat.lt_of_succ_lt q)) (Nat.lt_irrefl _)⟩
  have TG := turnG_sum (Y := cxGen X (genA X.A elt tg iter ifs scope pos it genv) { s3 with gens := s3.gens.push .running } H2 scope genv fp [(h'.objs.size, go)]) (σw := wipe σ (own.map (·.2))) (tn := tn) (fp := fp) (it := it) (elt := elt) (tg := tg) (ifs := ifs) hc rfl
    (fun b hb p hp z => by
      have e : p = (h'.objs.size, go) := by simpa using hp
      have q := sz b hb
      rw [← z, e] at q
      have q : h'.objs.size < s3.heap.objs.size := q
      rw [hsz] at q
      exact absurd (Nat.lt_of_succ_lt q) (Nat.lt_irrefl _)) rfl so T pg pt pe hw
  have jk := jok_sum (X := X) (A' := genA X.A elt tg iter ifs scope pos it genv) (s4 := s3) (H := H2) (scope := scope) (genv := genv) (fp := fp) (a := h'.objs.size) (S := S) (q := X.env.qual ++ "<genexpr>") (t1 := s3.toks + 1) (t2 := s3.toks + 1 + 1) (σw := wipe σ (own.map (·.2))) (tn := tn) hw.wa
  rw [hgo] at jk
  have hroom1 : X.A.in1.depth < recursionLimit := hroom
  have WG := walksG_gen (prog := X.prog) (w := X.w) (A := X.A.in1) (sp := fun _ => false) (pz := pz) (n₀ := n₀) (F := fun i y => ∃ t, y = .int (val i) t) (I.ok.hd hc) hroom1 jk
  have hps : ∀ x y : GenState, (s3.gens.push x).setIfInBounds s3.gens.size y = s3.gens.push y := fun x y => by
    apply Array.ext_getElem?
    intro i
    rw [Array.getElem?_setIfInBounds]
    by_cases z : s3.gens.size = i
    · subst z; simp
    · rw [if_neg z, Array.getElem?_push, Array.getElem?_push, if_neg (Ne.symm z), if_neg (Ne.symm z)]
  have isg : (h'.push go).IsGen h'.objs.size s3.gens.size := (jk.gen 0 { s3 with gens := s3.gens.push .running, toks := s3.toks + 1 + 1 + 1, heap := h'.push go } ⟨H2, I5, hw.wa _ _ w0⟩).1
  subst hgo
  have hSe : S = ({ s3 with gens := s3.gens.push (GenState.fresh (.compStart (.GeneratorExp elt [⟨tg, iter, ifs, 0⟩] scope pos) 0 (.ref it) .none genv)), toks := s3.toks + 1 + 1 + 1, heap := h'.push (genObj s3.gens.size (X.env.qual ++ "<genexpr>") (s3.toks + 1) (s3.toks + 1 + 1)) } : Shared).heap.objs.size := hS.symm
  refine call_sum_walkG (val := valY pz n₀ val) (wpAny_pyIter_gen isg ⟨rfl, _, _, _, _, WG, fun i => ?_, ?_, ?_, ?_, fun o hf hd => ?_, fun s' t' hf => ?_⟩)
  · unfold spY; split <;> rfl
  · rintro j v ⟨i, hi, t, rfl⟩
    have sy : valY pz n₀ val j = val i := by unfold valY; rw [hi]
    exact ⟨t, by rw [sy]⟩
  · intro s s' o r e
    rw [← hSe] at e ⊢
    exact r o e
  · intro i s9 h9 tk9 o9 ⟨gs, e1, e2, ⟨Hn, In, tnn, nn, nS, _, wn⟩, e4⟩ k9 e9 d9
    rw [← hSe] at k9 e9
    refine ⟨gs, e1, e2, ⟨Hn, In.turned (t' := tk9) (h' := h9) (it := S) (fun b o hb e => k9 b o hb e) nS so.loc (.inr so.up) so.cells (fun p hp => so.pn p (by simpa using hp)), T.keep _ _ _ tnn fun b hb o e => k9 b o (fun z => so.fp (by rw [← z]; exact hb)) e, nn, nS, ⟨o9, e9, d9⟩, wn⟩, e4⟩
  · refine ⟨_, Array.getElem?_push_size .., rfl, ?_, fun s'' j'' => ⟨rfl, ?_⟩⟩
    · show gJs _ _ _ _ _ _ 0 { s3 with gens := (s3.gens.push _).setIfInBounds s3.gens.size .running, toks := _, heap := _ }
      rw [hps]
      refine ⟨H2, I5.kept (t' := s3.toks + 1 + 1 + 1 + 1) fun b o e => Heap.get?_push_of_some _ e, T.keep _ _ _ st3 fun b _ o e => Heap.get?_push_of_some _ (kp b o e), fun b hb => (f2 b hb).1, fpS.1, ⟨o, ?_, hd⟩, w0⟩
      rw [← hS]
      exact Heap.get?_push_size _ hf
    · exact seg_genStartG (jk.refl) (jk.trans) (by show genv.scope.isCoroutine = false; rw [← hge]; exact hco) TG (fun A'' s9 Q9 E9 ⟨_, _, t9, _⟩ q9 => T.self A'' 0 s9 Q9 E9 t9 q9) s'' j''
  · obtain ⟨H', I', wa⟩ := gen_back (pins := pins) (σ := σ) I3 f2 hf
    exact ⟨.int _, H', I', ⟨_, rfl⟩, hq H' wa⟩
end Nf
set_option linter.all false
set_option maxRecDepth 100000
set_option autoImplicit false
set_option maxHeartbeats 4000000
namespace Nf
open PySem PySem.Spec PyProof.Rows L2
theorem pe_sumG {X : Cx} {elt tg iter : Expr} {ifs : List Expr} {scope : Scope} {own : List (Str × Nat)} {pos cpos p : Pos} {wi : TI} {g : L2.TG} {tt : TT} {te : TE} {c P bm : Addr}
    (hc : X.calm = true) (hN : X.N.Nodup) (hi : PI X tg iter wi) (ok : BlkOk X.N X.env.scope scope own) (hcell : ∀ y ∈ scope.names, y.2 ≠ .cell) (hco : scope.isCoroutine = false) (h0 : scope.names.lookup (".0" : Str) = some NameKind.local) (hroom : X.A.depth < recursionLimit)
    (hg : ∀ (A' : Around) (s : Shared) (H : Hp) (C : Addr) (code : Value) (fp : List Addr) (pn : List (Addr × Obj)), A'.depth ≤ X.A.depth + 1 → A'.units ≤ X.A.units + 8 → A'.handled = none → PG (cxGen X A' s H scope (genEnv scope (cloFrom X.env.cells scope.names []) C code builtinsNs X.env) fp pn) tg g)
    (ht : ∀ (A' : Around) (s : Shared) (H : Hp) (C : Addr) (code : Value) (fp : List Addr) (pn : List (Addr × Obj)), A'.depth ≤ X.A.depth + 1 → A'.units ≤ X.A.units + 8 → A'.handled = none → PTs (cxGen X A' s H scope (genEnv scope (cloFrom X.env.cells scope.names []) C code builtinsNs X.env) fp pn) ifs tt)
    (he : ∀ (A' : Around) (s : Shared) (H : Hp) (C : Addr) (code : Value) (fp : List Addr) (pn : List (Addr × Obj)), A'.depth ≤ X.A.depth + 1 → A'.units ≤ X.A.units + 8 → A'.handled = none → PE (cxGen X A' s H scope (genEnv scope (cloFrom X.env.cells scope.names []) C code builtinsNs X.env) fp pn) elt te)
    (hs : ∀ x, genFold iter X.env x = pure x) (hcd : X.env.code = .ref c) (ck : CodeK X.K c P) (bk : BiB X.base X.mg bm) (hgl : Gl X "sum") (hm : X.mg "sum" = none) :
    PE X (.Call (.Name "sum" p) [.GeneratorExp elt [⟨tg, iter, ifs, 0⟩] scope pos] [] cpos) (tSum wi g tt te (own.map (·.2)) fun H => H P = some (tabO P)) := by
  intro pins s σ H Q I h
  refine wpAny_Call_Name_kw (ld_blt I hgl hm (by decide +kernel : bootBuiltins "sum" = some (.builtin "sum")) ?_ (by decide) (by decide))
  refine PyProof.Rows.callWith_builtin1 ?_ rfl rfl
  refine Calls.spliced_cons (thn (sum_core hc hN I hi ok hcell hco h0 hroom hg ht he hs (fun s H I tb => code_ok I hcd ck tb) (fun s H Q I q => bi_ok I bk q) h) fun v s1 h1 => ?_)
  exact Calls.spliced_nil h1
def intD (t : Tg) (f : En → R) (s : En) (o : Option D) : Int := match o with
  | some x => match putT t x s with
    | some s1 => match f s1 with
      | .ok (.int i) => i
      | _ => 0
    | none => 0
  | none => 0
theorem intD_eq {t : Tg} {f : En → R} {s s1 : En} {x : D} {i : Int} (e1 : putT t x s = some s1) (e2 : f s1 = .ok (.int i)) : intD t f s (some x) = i := by
  unfold intD
  simp only [e1, e2]
def partD (t : Tg) (test elt : En → R) (s : En) (o : Option D) : Int := if bitD t test s o = true then intD t elt s o else 0
theorem partD_t {t : Tg} {test elt : En → R} {s s1 : En} {x : D} {i : Int} (e1 : putT t x s = some s1) (e2 : test s1 = .ok (.bl true)) (e3 : elt s1 = .ok (.int i)) : partD t test elt s (some x) = i := by
  unfold partD
  rw [bitD_eq e1 e2, intD_eq e1 e3]; rfl
theorem partD_f {t : Tg} {test elt : En → R} {s s1 : En} {x : D} (e1 : putT t x s = some s1) (e2 : test s1 = .ok (.bl false)) : partD t test elt s (some x) = 0 := by
  unfold partD
  rw [bitD_eq e1 e2]; rfl
theorem suL_eq {t : Tg} {test elt : En → R} {s : En} : ∀ {l : List D} {acc z : Int}, suL t test elt s l acc = .ok (.int z) → z = acc + (l.map fun x => partD t test elt s (some x)).sum
  | [], acc, z, h => by cases h; simp
  | x :: r, acc, z, h => by
    have h : lcO (putT t x s) (fun s1 => suB (test s1) (elt s1) (suL t test elt s r acc) fun i => suL t test elt s r (acc + i)) = .ok (.int z) := h
    rw [List.map_cons, List.sum_cons]
    cases ep : putT t x s with
    | none => rw [ep] at h; cases h
    | some s1 =>
      rw [ep] at h
      have h : suB (test s1) (elt s1) (suL t test elt s r acc) (fun i => suL t test elt s r (acc + i)) = .ok (.int z) := h
      unfold suB at h
      split at h
      · rename_i et
        split at h
        · rename_i i ee
          rw [partD_t ep et ee]
          have := suL_eq h
          omega
        · cases h
      · rename_i et
        rw [partD_f ep et]
        have := suL_eq h
        omega
      · cases h
theorem preSum_range (f : Nat → Int) : ∀ n, preSum f n = ((List.range n).map f).sum
  | 0 => rfl
  | n + 1 => by
    rw [List.range_succ, List.map_append, List.sum_append, ← preSum_range f n]
    simp [preSum]
theorem range_map {α : Type} (f : Nat → Int) (g : α → Int) (l : List α) (h : ∀ i x, l[i]? = some x → f i = g x) : (List.range l.length).map f = l.map g := by
  apply List.ext_getElem?
  intro i
  rw [List.getElem?_map, List.getElem?_map]
  by_cases hi : i < l.length
  · rw [List.getElem?_range hi, List.getElem?_eq_getElem hi]
    exact congrArg some (h i _ (List.getElem?_eq_getElem hi))
  · rw [List.getElem?_eq_none (by simpa using hi), List.getElem?_eq_none (by simpa using hi)]; rfl
theorem filter_sum (pz : Nat → Bool) (val : Nat → Int) : ∀ l : List Nat, ((l.filter pz).map val).sum = (l.map fun i => if pz i = true then val i else 0).sum
  | [] => rfl
  | i :: r => by
    rw [List.map_cons, List.sum_cons, ← filter_sum pz val r]
    cases h : pz i with
    | true => rw [List.filter_cons_of_pos h, List.map_cons, List.sum_cons]; simp
    | false => rw [List.filter_cons_of_neg (by simp [h])]; simp
theorem valY_sum (pz : Nat → Bool) (val : Nat → Int) (n : Nat) : preSum (valY pz n val) (passing pz n 0).length = ((List.range n).map fun i => if pz i = true then val i else 0).sum := by
  rw [preSum_range, range_map (valY pz n val) val (passing pz n 0) fun i x e => by unfold valY; rw [e]]
  unfold passing
  rw [List.drop_zero, filter_sum]
section
variable {P : Px}
theorem sum_D {t : Tg} {it : En → RL} {test elt : En → R} {σ : L2.St} {H : Hp} {Q : VK} {own : List Nat} {Tb : Hp → Prop} (ho : own = t.ix) (htb : ∀ F H' F', Grow H F H' F' → Tb H') (h : tD P (fun s => bndL (it s) fun xs => suL t test elt (Nf.wip (Nf.cln s) t.ix) xs 0) σ H Q) :
    tSum (tI P it) (gTg P.X.K t) (tB' (tIn P test)) (tIn P elt) own Tb σ H Q := by
  subst ho
  obtain ⟨F, s, l, q⟩ := h
  have q : RQ P s H F (bndL (it s) fun xs => suL t test elt (Nf.wip (Nf.cln s) t.ix) xs 0) Q := q
  refine ⟨F, s, l, ?_⟩
  cases eit : it s with
  | exn d => rw [eit] at q; exact q
  | bad => rw [eit] at q; exact q
  | ok xs =>
    rw [eit] at q
    have q : RQ P s H F (suL t test elt (Nf.wip (Nf.cln s) t.ix) xs 0) Q := q
    intro J H1 F1 g1 gv
    have hn0 : NoOwn (Nf.wip (Nf.cln s) t.ix) := wip_no (cln_no s) _
    generalize hs0 : Nf.wip (Nf.cln s) t.ix = s0 at q hn0
    refine ⟨htb F H1 F1 g1, xs.length, fun i => bitD t test s0 xs[i]?, fun i => intD t elt s0 xs[i]?, fun i H' => i ≤ xs.length ∧ ∃ F', Grow H F H' F' ∧ Keep H1 F1 H' F' ∧ ∃ acc, RQ P s H F (suL t test elt s0 (xs.drop i) acc) Q, fun H' => ∃ F', Grow H F H' F', ?_, ⟨Nat.zero_le _, F1, g1, Keep.refl _ _, 0, q⟩, fun H' ⟨F', g'⟩ => ?_⟩
    · constructor
      · rintro H' ⟨_, F', g', k', _⟩
        exact gv.stop H' F' k'
      · rintro i H' ⟨_, F', g', _⟩
        exact ⟨F', g'⟩
      · rintro i H' hlt ⟨_, F', g', k', _⟩
        exact (gv.go i _ H' F' k' g'.dom (List.getElem?_eq_getElem hlt)).1
      · rintro i H' hlt ⟨_, F', g', k', acc, q'⟩ x H2 yx
        have hd : xs.drop i = xs[i] :: xs.drop (i + 1) := List.drop_eq_getElem_cons hlt
        obtain ⟨F2, gy, r⟩ := (gv.go i _ H' F' k' g'.dom (List.getElem?_eq_getElem hlt)).2 x H2 yx
        replace g' := g'.trans gy
        replace k' := k'.trans gy.keep
        rw [hd] at q'
        have q' : RQ P s H F (lcO (putT t xs[i] s0) fun s1 => suB (test s1) (elt s1) (suL t test elt s0 (xs.drop (i + 1)) acc) fun j => suL t test elt s0 (xs.drop (i + 1)) (acc + j)) Q := q'
        rw [List.getElem?_eq_getElem hlt]
        cases ep : putT t xs[i] s0 with
        | none => rw [ep] at q'; exact (show False from q').elim
        | some s1 =>
          rw [ep] at q'
          have q' : RQ P s H F (suB (test s1) (elt s1) (suL t test elt s0 (xs.drop (i + 1)) acc) fun j => suL t test elt s0 (xs.drop (i + 1)) (acc + j)) Q := q'
          have n1 : NoOwn s1 := putT_no hn0 ep
          have l0 : Rl (inP P H2 F2) H2 F2 (wipe σ t.ix) s0 := by rw [← hs0]; exact Rl.re (P' := P) ((l.cln).wip (cln_no s) _) ⟨rfl, rfl, rfl⟩ (by rw [hs0]; exact hn0) g'
          refine put_tgW (P := inP P H2 F2) l0 r ep fun σ2 l2 w2 => ⟨by rw [w2, wipe_wipe], F2, s1, l2, ?_⟩
          unfold suB at q'
          split at q'
          · rename_i et
            rw [et, bitD_eq ep et]
            intro v H3 F3 g3 r3
            cases r3
            refine ⟨true, rfl, rfl, fun z => (by cases z), fun _ => ?_⟩
            have l3 : Rl (inP P H3 F3) H3 F3 σ2 s1 := Rl.re (P' := inP P H2 F2) l2 ⟨rfl, rfl, rfl⟩ n1 g3
            refine ⟨F3, s1, l3, ?_⟩
            split at q'
            · rename_i j ee
              rw [ee, intD_eq ep ee]
              intro y H4 F4 g4 r4
              cases r4
              exact ⟨rfl, hlt, F4, (g'.trans g3).trans g4, (k'.trans g3.keep).trans g4.keep, _, q'⟩
            · exact (show False from q').elim
          · rename_i et
            rw [et, bitD_eq ep et]
            intro v H3 F3 g3 r3
            cases r3
            exact ⟨false, rfl, rfl, fun _ => ⟨hlt, F3, g'.trans g3, k'.trans g3.keep, _, q'⟩, fun z => (by cases z)⟩
          · exact (show False from q').elim
    · have key : ∀ (l : List D) (acc : Int), RQ P s H F (suL t test elt s0 l acc) Q → ∃ z, suL t test elt s0 l acc = .ok (.int z) := by
        intro l
        induction l with
        | nil => exact fun acc _ => ⟨acc, rfl⟩
        | cons x r ih =>
          intro acc q
          have q : RQ P s H F (lcO (putT t x s0) fun s1 => suB (test s1) (elt s1) (suL t test elt s0 r acc) fun j => suL t test elt s0 r (acc + j)) Q := q
          show ∃ z, lcO (putT t x s0) (fun s1 => suB (test s1) (elt s1) (suL t test elt s0 r acc) fun j => suL t test elt s0 r (acc + j)) = .ok (.int z)
          cases ep : putT t x s0 with
          | none => rw [ep] at q; exact (show False from q).elim
          | some s1 =>
            rw [ep] at q
            have q : RQ P s H F (suB (test s1) (elt s1) (suL t test elt s0 r acc) fun j => suL t test elt s0 r (acc + j)) Q := q
            show ∃ z, suB (test s1) (elt s1) (suL t test elt s0 r acc) (fun j => suL t test elt s0 r (acc + j)) = .ok (.int z)
            unfold suB at q ⊢
            split at q
            · split at q
              · exact ih _ q
              · exact (show False from q).elim
            · exact ih _ q
            · exact (show False from q).elim
      obtain ⟨z, ez⟩ := key xs 0 q
      rw [ez] at q
      have e := suL_eq ez
      rw [Int.zero_add] at e
      rw [valY_sum, range_map _ (fun x => partD t test elt s0 (some x)) xs (fun i x e => by unfold partD; rw [e]), ← e]
      exact q _ H' F' g' (.int z)
end
end Nf
set_option linter.all false
set_option maxRecDepth 100000
set_option autoImplicit false
set_option maxHeartbeats 4000000
namespace Nf
open PySem L2 PySem.Spec PyProof.Rows
section
variable {P : Px}
theorem cond_q {s : En} {H : Hp} {F : Fz} {Q : VK} {v : V} {d : D} {A B : R} (r : P.rp H F v d) (q : RQ P s H F (cond d A B) Q) : ∃ c, v = .bl c ∧ if c = true then RQ P s H F A Q else RQ P s H F B Q := by
  cases r with
  | bl c =>
    refine ⟨c, rfl, ?_⟩
    cases c with
    | true => exact iteT q
    | false => exact iteF q
  | _ => exact (show False from q).elim
theorem not_q {s : En} {H : Hp} {F : Fz} {Q : VK} {v : V} {d : D} (dm : Dm H F) (r : P.rp H F v d) (q : RQ P s H F (notop d) Q) : ∃ c, v = .bl c ∧ Q (.bl (!c)) H := by
  cases r with
  | bl c => exact ⟨c, rfl, okB_q dm q⟩
  | _ => exact (show False from q).elim
theorem st_plain {x : Expr} {t : En → R} (h : PE P.X x (tD P t)) (he : ∀ whole, isTrue x P.X.env whole = (do let v ← whole; standAt x.pos; holding [v] (truthy v))) : PT P.X x (tB (tD P fun s => bnd (t s) tcv)) := by
  refine PT.imp (pt_truth h he) fun σ H Q q => ?_
  have q : tD P (fun s => bnd (t s) tcv) σ H (fun x H1 => ∃ c, x = .bl c ∧ Q c H1) := q
  refine (tD.bnd (f := fun _ => tcv) q).imp fun v H' ⟨F', s, d, l, r, q⟩ => ?_
  have q : RQ P s H' F' (tcv d) (fun x H1 => ∃ c, x = .bl c ∧ Q c H1) := q
  unfold tcv at q
  cases e : truth d with
  | none => rw [e] at q; exact (show False from q).elim
  | some b =>
    rw [e] at q
    obtain ⟨c, e', q'⟩ := okB_q l.dom q
    cases e'
    exact ⟨b, r.truth e, q'⟩
theorem rD.o {σ : L2.St} {g : D → D → R} {v u : V} {H : Hp} {Q : VK} (h : rD P σ g v u H Q) : rO P g v u H Q := by
  obtain ⟨F, s, x, y, l, r1, r2, q⟩ := h
  exact ⟨F, s, x, y, l.dom, r1, r2, q⟩
theorem pe_callF (ok : POk P) {f : Str} {l : Es} {es : List Expr} {p pos : Pos} (ha : PA P.X es (tDs P (evs P.G l))) (hg : gl P.X.env.scope f = true) (hf : (P.G.fn f).isSome = true) (hm : mEs P.gz P.G P.X.N P.X.env.scope l es = true) :
    PE P.X (.Call (.Name f p) es [] pos) (tD P fun s => bndL (evs P.G l s) fun ds => useFn (P.G.fn f) ds) := by
  obtain ⟨g1, g2⟩ := gl_ok hg
  obtain ⟨fe, e⟩ := Option.isSome_iff_exists.mp hf
  obtain ⟨a, kk, fd, ps, m, k, FF, hr, df, _⟩ := ok.fn f fe e
  have C := fnC_of FF (room_le hr) df ok.ex
  intro pins st σ H Q I h
  have h := tD.bndL (f := fun _ ds => useFn (P.G.fn f) ds) h
  rw [e] at h
  refine wpAny_Call_Name_kw (ld_glob I g1 m ?_ g2)
  cases es with
  | nil =>
    cases l with
    | cons _ _ => exact absurd hm Bool.false_ne_true
    | nil =>
      obtain ⟨F, s, lr, q⟩ := h
      obtain ⟨F', s', ds, l', r', q'⟩ := q [] H F lr.self .nil
      exact PySem.W.callWith_K0 I.kIn k (C pins st σ H F' s' [] [] ds Q I l' .nil r' q')
  | cons x xs =>
    cases l with
    | nil => exact absurd hm Bool.false_ne_true
    | cons a' l' =>
      obtain ⟨h1, h2⟩ := a2 hm
      obtain ⟨_, h3⟩ := a2 h2
      refine PySem.W.callWith_K (h₀ := P.X.base) I.ok.mod.kin k (thn (ha pos pins st σ H _ I h) fun us s1 ⟨vs, H1, I1, r, F', s', ds, l', r', q'⟩ => ⟨I1.kIn, ?_⟩) (star_ok h1 _ _) (mEs_star h3)
      exact C pins s1 σ H1 F' s' vs us ds Q I1 l' r r' q'
theorem pe_callKw (ok : POk P) {f k : Str} {l : Es} {e : E} {y z : Expr} {ys : List Expr} {p pos kp : Pos} (ha : PA P.X (y :: ys) (tDs P (evs P.G l))) (hz : PE P.X z (tD P (ev P.G e))) (hg : gl P.X.env.scope f = true) (hf : (P.G.fn f).isSome = true) (hm : mEs P.gz P.G P.X.N P.X.env.scope l (y :: ys) = true) :
    PE P.X (.Call (.Name f p) (y :: ys) [⟨some k, z, kp⟩] pos) (tD P fun s => bndL (evs P.G l s) fun ds => bnd (ev P.G e s) fun d => if P.G.kw f k = ds.length + 1 then useFn (P.G.fn f) (ds ++ [d]) else .bad) := by
  obtain ⟨g1, g2⟩ := gl_ok hg
  obtain ⟨fe, ef⟩ := Option.isSome_iff_exists.mp hf
  obtain ⟨a, kk, fd, ps, m, kp', FF, hr, df, kw⟩ := ok.fn f fe ef
  intro pins st σ H Q I h
  have h := tD.bndL (f := fun s ds => bnd (ev P.G e s) fun d => if P.G.kw f k = ds.length + 1 then useFn (P.G.fn f) (ds ++ [d]) else .bad) h
  rw [ef] at h
  refine wpAny_Call_Name_kw (ld_glob I g1 m ?_ g2)
  cases l with
  | nil => exact absurd hm Bool.false_ne_true
  | cons a' l' =>
    obtain ⟨h1, h2⟩ := a2 hm
    obtain ⟨_, h3⟩ := a2 h2
    refine PySem.W.callWith_KW (h₀ := P.X.base) I.ok.mod.kin kp' rfl (thn (ha pos pins st σ H _ I h) fun us s1 ⟨vs, H1, I1, r, F', s', ds, l', r', q'⟩ => ?_) ?_ (star_ok h1 _ _)
    · have hk := pk_cons (nm := some k) (kpos := kp) hz (pk_nil (X := P.X))
      refine thn (hk pos pins s1 σ H1 (fun zs H2 => ∃ v F2 d, zs = [v] ∧ Grow H1 F' H2 F2 ∧ P.rp H2 F2 v d ∧ RQ P s' H2 F2 (if P.G.kw f k = ds.length + 1 then useFn (some fe) (ds ++ [d]) else .bad) Q) I1 ?_) fun ws s2 ⟨zs, H2, I2, rz, v, F2, d, ez, g2, r2, q2⟩ => ⟨I2.kIn, ?_⟩
      · exact ⟨F', s', l', (RQ.bnd q').imp fun v H2 ⟨F2, d, g2, r2, q2⟩ => ⟨v, F2, d, rfl, g2, r2, q2⟩⟩
      · subst ez
        obtain ⟨u, rfl, ru⟩ := vals1 rz
        by_cases hc : P.G.kw f k = ds.length + 1
        · rw [if_pos hc] at q2
          obtain ⟨k1, k2, k3⟩ := kw k (by omega)
          exact fnK_of FF (room_le hr) k2 k3 ok.ex I2 (l'.grow g2) r ru (r'.grow g2) r2 (by omega) q2
        · rw [if_neg hc] at q2
          exact (show False from q2).elim
    · have e1 : (backTo pos (starEach (y :: ys) P.X.env)).any (·.1) = false := mEs_star (l := .cons a' l') hm
      rw [e1]
      rfl
theorem pe_newD (ok : POk P) {c : Str} {p pos : Pos} (hg : gl P.X.env.scope c = true) (hn : P.G.new c = true) : PE P.X (.Call (.Name c p) [] [] pos) (tD P fun _ => if P.G.new c then .ok (.ins c) else .bad) := by
  obtain ⟨g1, g2⟩ := gl_ok hg
  obtain ⟨C, m, M⟩ := ok.wd.new c hn
  intro pins st σ H Q I ⟨F, s, l, q⟩
  rw [if_pos hn] at q
  refine wpAny_Call_Name_kw (ld_glob I g1 m ?_ g2)
  refine PySem.W.callWith_K0 I.kIn M.kp (run_new M I fun x dx nx ndx nex => ?_)
  have q : ∀ v H' F', Grow H F H' F' → P.rp H' F' v (.ins c) → Q v H' := q
  have n1 : (upd H dx (.own x)) x = none := by rw [upd_ne (Ne.symm nex)]; exact nx
  have ga := (grow_own (o := HO.own x) l.dom ndx).1
  have gb := grow_new (o := HO.ins C dx []) ga.dom n1
  exact q _ _ _ (ga.trans gb) (.ins (.inr rfl) m upd_same)
theorem all_of_any {α : Type} : ∀ {l : List (Bool × α)}, l.any (·.1) = false → l.all (fun x => !x.1) = true
  | [], _ => rfl
  | (b, x) :: r, h => by
    rw [List.any_cons, Bool.or_eq_false_iff] at h
    rw [List.all_cons, all_of_any h.2]
    have : b = false := h.1
    subst this
    rfl
theorem pe_methD (ok : POk P) {a : E} {m : Str} {l : Es} {o y : Expr} {ys : List Expr} {ap pos : Pos} (ho : PE P.X o (tD P (ev P.G a))) (hb : attributeBase o m P.X.env (eval o P.X.env) = eval o P.X.env) (hl : (ap.endLine == pos.line) = true) (hn : (y :: ys).length < 30)
    (ha : PA P.X (y :: ys) (tDs P (evs P.G l))) (hm : mEs P.gz P.G P.X.N P.X.env.scope l (y :: ys) = true) : PE P.X (.Call (.Attribute o m ap) (y :: ys) [] pos) (tD P fun s => bnd (ev P.G a s) fun x => mthop P.G x m (evs P.G l s)) := by
  intro pins st σ H Q I h
  have hs : (backTo pos (starEach (y :: ys) P.X.env)).any (·.1) = false := mEs_star (l := l) hm
  have hform : methodCallForm ((y :: ys).length + ([] : List Keyword).length) (backTo pos (starEach (y :: ys) P.X.env)) (backToKw pos (keywordEach [] P.X.env)) = true := by
    unfold methodCallForm
    rw [all_of_any hs]
    show (true && true && decide ((y :: ys).length + 0 + 0 < 30)) = true
    rw [decide_eq_true (by omega)]
    rfl
  have h := tD.bnd (f := fun s x => mthop P.G x m (evs P.G l s)) h
  refine wp_meth hb hform hl fun pl => thn (ho pins st σ H _ I h) fun u s1 ⟨v, H1, I1, rv, F1, s', x, l1, r1, q1⟩ => ?_
  cases r1 with
  | @ins adr C dx c hF hc hH =>
    cases rv
    cases em : P.G.mth c m with
    | none =>
      have q1 : RQ P s' H1 F1 (match P.G.mth c m with
        | some fe => bndL (evs P.G l s') fun ds => useFn (some fe) (.ins c :: ds)
        | none => .bad) Q := q1
      rw [em] at q1
      exact (show False from q1).elim
    | some fe =>
      obtain ⟨C', f, k, fd, ps, mc, hC, hM, FF, hr, df⟩ := ok.mth c m fe em
      have hcc : P.X.mg c = some (.ref C) := hc
      rw [mc] at hcc
      cases hcc
      have CC := fnC_of FF (room_le hr) df ok.ex
      refine getmeth_ok I1 hH hC hM rfl ?_
      have q1 : RQ P s' H1 F1 (match P.G.mth c m with
        | some fe => bndL (evs P.G l s') fun ds => useFn (some fe) (.ins c :: ds)
        | none => .bad) Q := q1
      rw [em] at q1
      have q1 : RQ P s' H1 F1 (bndL (evs P.G l s') fun ds => useFn (some fe) (.ins c :: ds)) Q := q1
      cases l with
      | nil => exact absurd hm Bool.false_ne_true
      | cons a' l' =>
        obtain ⟨h1, h2⟩ := a2 hm
        obtain ⟨_, h3⟩ := a2 h2
        refine PySem.W.callWith_K (first := [.ref adr]) (h₀ := P.X.base) I.ok.mod.kin hM.kp (thn (ha pos pins s1 σ H1 _ I1 ⟨F1, s', l1, RQ.bndL q1⟩) fun us s2 ⟨vs, H2, I2, r, F2, ds, g2, rd, q2⟩ => ⟨I2.kIn, ?_⟩) (star_ok h1 _ _) (mEs_star h3)
        exact CC pins s2 σ H2 F2 s' (.ref adr :: vs) (.ref adr :: us) (.ins c :: ds) Q I2 (l1.grow g2) (.cons rfl r) (.cons ((Rp.ins hF hc hH).grow g2) rd) q2
  | _ => exact (show False from q1).elim
theorem rB_of {f : Bf} {σ : L2.St} {H : Hp} {Q : VK} {l : Es} (h : tD P (fun s => bndL (evs P.G l s) fun ds => bltop f ds) σ H Q) : tDs P (evs P.G l) σ H fun vs H1 => rB P f vs H1 Q := by
  refine (tD.bndL (f := fun _ ds => bltop f ds) h).imp fun vs H1 ⟨F', s, ds, l, r, q⟩ => ⟨F', s, ds, l.dom, r, q⟩
theorem pe_blt (ok : POk P) {f : Bf} {l : Es} {e : Expr} {es : List Expr} {p pos : Pos} (ha : PA P.X (e :: es) (tDs P (evs P.G l))) (hg : gl P.X.env.scope f.name = true) (hm : mEs P.gz P.G P.X.N P.X.env.scope l (e :: es) = true) :
    PE P.X (.Call (.Name f.name p) (e :: es) [] pos) (tD P fun s => bndL (evs P.G l s) fun ds => bltop f ds) := by
  obtain ⟨g1, g2⟩ := gl_ok hg
  have hn := ok.wd.blt f
  have hs : noStar e = true := by
    cases l with
    | nil => exact absurd hm Bool.false_ne_true
    | cons a l => exact (a2 hm).1
  have hp : (backTo pos (starEach es P.X.env)).any (·.1) = false := by
    cases l with
    | nil => exact absurd hm Bool.false_ne_true
    | cons a l => exact mEs_star (a2 (a2 hm).2).2
  cases f with
  | len => exact PE.imp (pe_callB (call_len' rfl) g1 hn (by decide +kernel) ha (by decide +kernel) g2 (star_ok hs _ _) hp) fun σ H Q h => rB_of h
  | min => exact PE.imp (pe_callB (call_min' rfl ok.calm) g1 hn (by decide +kernel) ha (by decide +kernel) g2 (star_ok hs _ _) hp) fun σ H Q h => rB_of h
  | max => exact PE.imp (pe_callB (call_max' rfl ok.calm) g1 hn (by decide +kernel) ha (by decide +kernel) g2 (star_ok hs _ _) hp) fun σ H Q h => rB_of h
  | abs => exact PE.imp (pe_callB (call_abs' rfl) g1 hn (by decide +kernel) ha (by decide +kernel) g2 (star_ok hs _ _) hp) fun σ H Q h => rB_of h
  | divmod => exact PE.imp (pe_callB (call_divmod' rfl) g1 hn (by decide +kernel) ha (by decide +kernel) g2 (star_ok hs _ _) hp) fun σ H Q h => rB_of h
  | int => exact PE.imp (pe_callTy (call_int' rfl) g1 hn (by decide +kernel) ha (by decide +kernel) g2 (star_ok hs _ _) hp) fun σ H Q h => rB_of h
theorem chain_r {o p : CmpOp} {ta tb tc : En → R} {σ : L2.St} {H : Hp} {Q : VK} (h : tD P (fun s => bnd (ta s) fun x => bnd (tb s) fun y => bnd (cmpop o x y) fun z => cond z (bnd (tc s) fun w => cmpop p y w) (okB false)) σ H Q) :
    tChain (rO P (cmpop o)) (rO P (cmpop p)) (tD P ta) (tD P tb) (tD P tc) σ H Q := by
  refine (tD.bnd (f := fun s x => bnd (tb s) fun y => bnd (cmpop o x y) fun z => cond z (bnd (tc s) fun w => cmpop p y w) (okB false)) h).imp fun v H1 ⟨F1, s, x, l1, r1, q1⟩ => ?_
  refine ⟨F1, s, l1, (RQ.bnd q1).imp fun u H2 ⟨F2, y, g2, r2, q2⟩ => ?_⟩
  have l2 := l1.grow g2
  refine ⟨F2, s, x, y, l2.dom, r1.grow g2, r2, (RQ.bnd q2).imp fun z H3 ⟨F3, d, g3, r3, q3⟩ => ?_⟩
  have l3 := l2.grow g3
  obtain ⟨c, e, q4⟩ := cond_q r3 q3
  refine ⟨c, e, ?_⟩
  cases c with
  | true =>
    refine iteT ?_
    rw [if_pos rfl] at q4
    refine ⟨F3, s, l3, (RQ.bnd q4).imp fun w H4 ⟨F4, d4, g4, r4, q5⟩ => ⟨F4, s, y, d4, (l3.grow g4).dom, (r2.grow g3).grow g4, r4, q5⟩⟩
  | false =>
    refine iteF ?_
    rw [if_neg Bool.false_ne_true] at q4
    exact okB_q l3.dom q4
theorem loco_ok {N : List Str} {sc : Scope} {i : Nat} {x : Str} (h : loco N sc i x = true) : N[i]? = some x ∧ sc.names.lookup x = some .local := by
  obtain ⟨h1, h2⟩ := a2 h
  exact ⟨beq_iff_eq.mp h1, beq_iff_eq.mp h2⟩
theorem pgs_to (ok : POk P) : ∀ {l : List Nat} {es : List Expr}, locos P.X.N P.X.env.scope l es = true → PGs P.X es (gL l) ∧ (assignEach es P.X.env).length = l.length ∧ (assignEach es P.X.env).findIdx? (·.1) = none
  | [], [], _ => ⟨pgs_nil, rfl, rfl⟩
  | [], _ :: _, h => absurd h Bool.false_ne_true
  | _ :: _, [], h => absurd h Bool.false_ne_true
  | i :: r, e :: es, h => by
    cases e with
    | Name x pos =>
      obtain ⟨h1, h2⟩ := a2 h
      obtain ⟨h3, h4⟩ := loco_ok h1
      obtain ⟨i1, i2, i3⟩ := pgs_to ok h2
      refine ⟨pgs_cons (pg_name ok.nd h3 (.inl h4) (.inr h4)) i1, ?_, ?_⟩
      · show (assignEach es P.X.env).length + 1 = r.length + 1
        rw [i2]
      · show ((false, assign (.Name x pos) P.X.env) :: assignEach es P.X.env).findIdx? (·.1) = none
        rw [List.findIdx?_cons, i3]
        rfl
    | _ => exact absurd h Bool.false_ne_true
theorem pg_to (ok : POk P) {t : Tg} {e : Expr} (h : mTo P.X.N P.X.env.scope t e = true) : PG P.X e (gTg P.X.K t) := by
  cases t with
  | name i =>
    cases e with
    | Name x pos =>
      obtain ⟨h3, h4⟩ := loco_ok h
      exact pg_name ok.nd h3 (.inl h4) (.inr h4)
    | _ => exact absurd h Bool.false_ne_true
  | tup l =>
    cases e with
    | Tuple es k pos =>
      obtain ⟨i1, i2, i3⟩ := pgs_to ok h
      exact pg_tup ok.calm i1 i2 i3
    | _ => exact absurd h Bool.false_ne_true
theorem ok_blk (ok : POk P) {scope : Scope} (st : Shared) (Hb : Hp) (C : Addr) (cl : List (Str × Addr)) (fp : List Addr) (H : Hp) (F : Fz) : POk ⟨P.X.blk st Hb scope (compEnvC scope cl C P.X.env) fp, H, F, H, F, false, fun _ _ => False, P.G, P.T, P.gz⟩ :=
  ⟨ok.nd, ok.calm, ok.hu, ok.wd, ok.fn, ok.mth, fun pins σ H1 F1 s1 st1 e1 s' d I l w => w.elim, ok.gen, ok.bi, ok.dp⟩
theorem pe_lcD (ok : POk P) {t : Tg} {it : It} {ifs : Es} {e : E} {elt tg iter : Expr} {cs : List Expr} {scope : Scope} {pos : Pos} (i1 : PI P.X tg iter (tI P (evi P.G it))) (i2 : ∀ v, foldedSetIterable iter P.X.env v = pure v) (h2 : blkC P.X.N P.X.env.scope scope (ownOf P.X.N t) = true) (h3 : mTo P.X.N (relS scope P.X.env.scope) t tg = true)
    (hE : ∀ (st : Shared) (Hb : Hp) (C : Addr) (cl : List (Str × Addr)) (fp : List Addr) (H : Hp) (F : Fz), PE (P.X.blk st Hb scope (compEnvC scope cl C P.X.env) fp) elt (tD ⟨P.X.blk st Hb scope (compEnvC scope cl C P.X.env) fp, H, F, H, F, false, fun _ _ => False, P.G, P.T, P.gz⟩ (ev P.G e)))
    (hT : ∀ (st : Shared) (Hb : Hp) (C : Addr) (cl : List (Str × Addr)) (fp : List Addr), PTs (P.X.blk st Hb scope (compEnvC scope cl C P.X.env) fp) cs (tB' (tIn P (evcs P.G ifs)))) :
    PE P.X (.ListComp elt [⟨tg, iter, cs, 0⟩] scope pos) (tD P (ev P.G (.lc t it ifs e))) := by
  have hE' : ∀ (st : Shared) (Hb : Hp) (C : Addr) (cl : List (Str × Addr)) (fp : List Addr), PE (P.X.blk st Hb scope (compEnvC scope cl C P.X.env) fp) elt (tIn P (ev P.G e)) := fun st Hb C cl fp pins s1 σ H Q I ⟨F, s, l, q⟩ =>
    hE st Hb C cl fp H F pins s1 σ H Q I ⟨F, s, ⟨l.g, l.len, l.slot, l.apart, l.kp, l.tb⟩, q⟩
  refine PE.imp (pe_lc ok.calm ok.nd i1 (blkOk_by h2) (fun st Hb C cl fp => pg_to (ok_blk ok st Hb C cl fp Hb (fun _ => False)) h3) hT hE' i2) fun σ H Q q => lc_D ?_ q
  unfold ownOf
  rw [List.map_map]
  exact List.map_id _
theorem ok_gen (ok : POk P) (hz : P.gz = true) {scope : Scope} {A' : Around} (st : Shared) (Hb : Hp) (C : Addr) (code : Value) (fp : List Addr) (pn : List (Addr × Obj)) (H : Hp) (F : Fz) (h1 : A'.depth ≤ P.X.A.depth + 1) (h2 : A'.units ≤ P.X.A.units + 8) (h3 : A'.handled = none) :
    POk ⟨cxGen P.X A' st Hb scope (genEnv scope (cloFrom P.X.env.cells scope.names []) C code builtinsNs P.X.env) fp pn, H, F, H, F, false, fun _ _ => False, P.G, P.T, false⟩ := by
  have room : ∀ {k : Nat}, Room (k + (if P.gz then 1 else 0)) P.X.A → Room (k + (if false then 1 else 0)) A' := fun {k} r => by
    rw [hz] at r
    have d := r.dp
    have u := r.un
    refine ⟨h3, ?_, ?_⟩
    · show A'.depth + 3 * (k + 0) + 5 < recursionLimit
      have d : P.X.A.depth + 3 * (k + 1) + 5 < recursionLimit := d
      omega
    · show A'.units + 16 * (k + 0) + 200 < cLine
      have u : P.X.A.units + 16 * (k + 1) + 200 < cLine := u
      omega
  have hu := ok.hu
  rw [hz] at hu
  have hu : P.X.A.units + 64 + 8 < cLine := hu
  refine ⟨ok.nd, ok.calm, ?_, ok.wd, fun f fe e => ?_, fun c m fe e => ?_, fun pins σ H1 F1 s1 st1 e1 s' d I l w => w.elim, fun z => (by cases z), fun z => (by cases z), fun z => (by cases z)⟩
  · show A'.units + 64 + 0 < cLine
    omega
  · obtain ⟨a, k, fd, ps, m, kp, FF, hr, df, kw⟩ := ok.fn f fe e
    exact ⟨a, k, fd, ps, m, kp, FF, room hr, df, kw⟩
  · obtain ⟨C', f, k, fd, ps, m1, c1, c2, FF, hr, df⟩ := ok.mth c m fe e
    exact ⟨C', f, k, fd, ps, m1, c1, c2, FF, room hr, df⟩
theorem pts_G {Y : Cx} : PTs Y [] (tB' (tIn P yes)) := by
  intro pins s1 σ H Q I ⟨F, s, l, q⟩
  have q : ∀ v H' F', Grow H F H' F' → Rp P.X.K P.X.mg H' F' v (.bl true) → ∃ c, v = .bl c ∧ Q c H' := q
  refine pts_nil pins s1 σ H Q I ?_
  obtain ⟨c, e, q⟩ := q _ H F l.self (.bl true)
  cases e
  exact q
theorem gn_ok {g : Bool} {N : List Str} {sc : Scope} {t : Tg} {tg iter : Expr} {scope : Scope} {f : Str} (h : mGn g N sc t tg iter scope f = true) :
    g = true ∧ gl sc f = true ∧ noLst iter = true ∧ (∀ y ∈ scope.names, y.2 ≠ .cell) ∧ scope.isCoroutine = false ∧ scope.names.lookup (".0" : Str) = some .local ∧ blkC N sc scope (ownOf N t) = true ∧ mTo N scope t tg = true := by
  obtain ⟨h1, h2⟩ := a2 h
  obtain ⟨h2, h3⟩ := a2 h2
  obtain ⟨h3, h4⟩ := a2 h3
  obtain ⟨h4, h5⟩ := a2 h4
  obtain ⟨h5, h6⟩ := a2 h5
  obtain ⟨h6, h7⟩ := a2 h6
  obtain ⟨h7, h8⟩ := a2 h7
  refine ⟨h1, h2, h3, fun y hy z => ?_, by simpa using h5, beq_iff_eq.mp h6, h7, h8⟩
  have := List.all_eq_true.mp h4 y hy
  rw [z] at this
  exact absurd this (by decide)
theorem own_ix {N : List Str} {t : Tg} : (ownOf N t).map (·.2) = t.ix := by
  unfold ownOf
  rw [List.map_map]
  exact List.map_id _
theorem pe_anD (ok : POk P) {t : Tg} {it : It} {e : E} {elt tg iter : Expr} {scope : Scope} {gp pos p : Pos} (i1 : PI P.X tg iter (tI P (evi P.G it))) (i2 : ∀ v, foldedSetIterable iter P.X.env v = pure v) (hm : mGn P.gz P.X.N P.X.env.scope t tg iter scope "any" = true)
    (hE : ∀ (Q : Px), POk Q → Q.X.env.scope = scope → Q.X.N = P.X.N → Q.G = P.G → Q.gz = false → PE Q.X elt (tD Q (ev P.G e))) :
    PE P.X (.Call (.Name "any" p) [.GeneratorExp elt [⟨tg, iter, [], 0⟩] scope gp] [] pos) (tD P (ev P.G (.anyg t it e))) := by
  obtain ⟨hz, hgl, hnl, hcell, hco, h0, hb, hto⟩ := gn_ok hm
  obtain ⟨c, tb, ec, ck, hT⟩ := ok.gen hz
  obtain ⟨bm, bk⟩ := ok.bi hz
  have hs : ∀ x, genFold iter P.X.env x = pure x := fun x => by
    rw [← i2 x]
    cases iter <;> first | rfl | exact absurd hnl Bool.false_ne_true
  refine PE.imp (pe_anyG (g := gTg P.X.K t) (tt := tB' (tIn P yes)) (te := tIn P (ev P.G e)) ok.calm ok.nd i1 (blkOk_by hb) hcell hco h0 (ok.dp hz) (fun A' s H C code fp pn d u hh => ?_) (fun A' s H C code fp pn d u hh => pts_G) (fun A' s H C code fp pn d u hh => ?_) hs ec ck bk (gl_ok hgl).1 ok.wd.any0) fun σ H Q ⟨F, s, l, q⟩ => ?_
  · exact pg_to (ok_gen ok hz s H C code fp pn H (fun _ => False) d u hh) hto
  · intro pins s1 σ H1 Q I ⟨F, s2, l, q⟩
    exact hE _ (ok_gen ok hz s H C code fp pn H1 F d u hh) rfl rfl rfl rfl pins s1 σ H1 Q I ⟨F, s2, ⟨l.g, l.len, l.slot, l.apart, l.kp, l.tb⟩, q⟩
  · exact any_D own_ix (fun F1 H' F' g => g.same _ _ (l.tb tb hT)) ⟨F, s, l, q⟩
theorem pe_suD (ok : POk P) {t : Tg} {it : It} {e : E} {elt tg iter : Expr} {scope : Scope} {gp pos p : Pos} (i1 : PI P.X tg iter (tI P (evi P.G it))) (i2 : ∀ v, foldedSetIterable iter P.X.env v = pure v) (hm : mGn P.gz P.X.N P.X.env.scope t tg iter scope "sum" = true)
    (hE : ∀ (Q : Px), POk Q → Q.X.env.scope = scope → Q.X.N = P.X.N → Q.G = P.G → Q.gz = false → PE Q.X elt (tD Q (ev P.G e))) :
    PE P.X (.Call (.Name "sum" p) [.GeneratorExp elt [⟨tg, iter, [], 0⟩] scope gp] [] pos) (tD P (ev P.G (.sumg t it e))) := by
  obtain ⟨hz, hgl, hnl, hcell, hco, h0, hb, hto⟩ := gn_ok hm
  obtain ⟨c, tb, ec, ck, hT⟩ := ok.gen hz
  obtain ⟨bm, bk⟩ := ok.bi hz
  have hs : ∀ x, genFold iter P.X.env x = pure x := fun x => by
    rw [← i2 x]
    cases iter <;> first | rfl | exact absurd hnl Bool.false_ne_true
  refine PE.imp (pe_sumG (g := gTg P.X.K t) (tt := tB' (tIn P yes)) (te := tIn P (ev P.G e)) ok.calm ok.nd i1 (blkOk_by hb) hcell hco h0 (ok.dp hz) (fun A' s H C code fp pn d u hh => ?_) (fun A' s H C code fp pn d u hh => pts_G) (fun A' s H C code fp pn d u hh => ?_) hs ec ck bk (gl_ok hgl).1 ok.wd.sum0) fun σ H Q ⟨F, s, l, q⟩ => ?_
  · exact pg_to (ok_gen ok hz s H C code fp pn H (fun _ => False) d u hh) hto
  · intro pins s1 σ H1 Q I ⟨F, s2, l, q⟩
    exact hE _ (ok_gen ok hz s H C code fp pn H1 F d u hh) rfl rfl rfl rfl pins s1 σ H1 Q I ⟨F, s2, ⟨l.g, l.len, l.slot, l.apart, l.kp, l.tb⟩, q⟩
  · exact sum_D own_ix (fun F1 H' F' g => g.same _ _ (l.tb tb hT)) ⟨F, s, l, q⟩
def rCnt (K : PySem.W.Frag) : V → List V → Hp → VK → Prop := fun x xs H Q => ∃ (a : Addr) (ns : List Int) (k : Int), x = .ref a ∧ xs = [.int k] ∧ SqL K H a (ns.map V.int) ∧ Q (.int (ns.count k : Nat)) H
theorem ints_vals : ∀ {vs : List Value} {ns : List Int}, Vals (ns.map V.int) vs → IntsAre vs ns
  | _, [], .nil => .nil
  | _, n :: r, .cons ⟨t, e⟩ h => by subst e; exact .cons n t (ints_vals h)
theorem mt_cnt {X : Cx} : MtR X "list.count" (rCnt X.K) := by
  intro pins st σ H x xs v us Q I rx rxs ⟨a, ns, k, e1, e2, sq, q⟩
  subst e1 e2
  cases rx
  obtain ⟨u, rfl, t, rfl⟩ := vals1 rxs
  obtain ⟨its, rv, p, _⟩ := I.list sq
  exact count_list_ints (vs := its) p.isList (ints_vals rv) ⟨.int (ns.count k : Nat), H, I.kept (t' := st.toks + 1) fun b o e => e, ⟨_, rfl⟩, q⟩
theorem intsOf_rps {K : PySem.W.Frag} {mg : Str → Option Value} {H : Hp} {F : Fz} : ∀ {l : List D} {vs : List V} {ns : List Int}, Rps K mg H F vs l → intsOf l = some ns → vs = ns.map V.int
  | [], _, _, h, e => by cases h; cases e; rfl
  | .int i :: r, _, ns, h, e => by
    cases h with
    | cons a b =>
      unfold intsOf at e
      split at e
      · rename_i l e1
        cases e
        cases a
        rw [List.map_cons, ← intsOf_rps b e1]
      · cases e
  | .non :: _, _, _, _, e => by cases e
  | .bl _ :: _, _, _, _, e => by cases e
  | .str _ :: _, _, _, _, e => by cases e
  | .tup _ :: _, _, _, _, e => by cases e
  | .lst _ :: _, _, _, _, e => by cases e
  | .ins _ :: _, _, _, _, e => by cases e
  | .exc _ _ :: _, _, _, _, e => by cases e
def tStar (K : PySem.W.Frag) (te : TE) (t : TA) : TA := fun σ H Q => te σ H fun v H1 => ∃ a xs, v = .ref a ∧ SqT K H1 a xs ∧ t σ H1 fun vs H2 => Q (xs ++ vs) H2
theorem pa_star {X : Cx} {e : Expr} {p : Pos} {es : List Expr} {te : TE} {t : TA} (ha : PE X e te) (hr : PA X es t) (hs : starEach (.Starred e p :: es) X.env = (true, eval e X.env) :: starEach es X.env := by rfl) : PA X (.Starred e p :: es) (tStar X.K te t) := by
  intro pos pins s σ H Q I h
  refine PySem.W.items_star (thn (ha pins s σ H _ I h) fun u s1 ⟨x, H1, I1, r1, q1⟩ => ?_) hs
  obtain ⟨a, xs, e1, hq, q⟩ := q1
  subst e1
  cases r1
  obtain ⟨its, rv, ht, hz⟩ := I1.tuple hq
  obtain ⟨o, D, hc, n, hd⟩ := ht
  have hT' : s1.TypeIs (.ref a) "tuple" := ⟨o, D, hc⟩
  unfold PySem.W.StarOf notIterableAtAll
  refine wpAny_bind (wpAny_specialOf hT' PySem.F.slot_tuple_iter.lookup (wpAny_pure ⟨rfl, ?_⟩))
  refine wpAny_collect_seq a (.inr rfl) D hc hd (fun h' hk => ?_) (by rw [List.size_toArray, ← rv.length]; exact hz)
  have I2 : Inv X pins σ H1 { s1 with heap := h' } := I1.kept (t' := s1.toks) hk
  refine thn (hr pos pins _ σ H1 _ I2 q) fun us s2 ⟨ys, H2, I2, r2, q2⟩ => ⟨xs ++ ys, H2, I2, ?_, q2⟩
  have gen : ∀ {zs : List V} {ws : List Value}, Vals zs ws → Vals (zs ++ ys) (ws ++ us) := by
    intro zs ws v
    induction v with
    | nil => exact r2
    | cons r _ ih => exact .cons r ih
  exact gen (by simpa using rv)
def tSS (l : List (Str × Str)) : List (TE × TE) := l.map fun kv => (tC (.str kv.1), tC (.str kv.2))
theorem dsp_pps {X : Cx} {pos : Pos} : ∀ {l : List (Str × Str)} {ks : List (Option Expr)} {vs : List Expr}, dspC l ks vs = true → PPs X pos ks vs (tSS l) ∧ ks.all (·.isSome) = true ∧ ks.length = l.length ∧ vs.length = l.length := by
  intro l
  induction l with
  | nil =>
    intro ks vs h
    cases ks with
    | nil => cases vs with
      | nil => exact ⟨pps_nil, rfl, rfl, rfl⟩
      | cons _ _ => exact absurd h Bool.false_ne_true
    | cons k ks => cases vs <;> exact absurd h Bool.false_ne_true
  | cons kv l ih =>
    intro ks vs h
    obtain ⟨k, v⟩ := kv
    unfold dspC at h
    split at h
    · rename_i e; cases e
    · rename_i k' v' l' a _ _ ks' b _ _ vs' e
      cases e
      obtain ⟨h1, h2⟩ := a2 h
      obtain ⟨h2, h3⟩ := a2 h2
      obtain ⟨i1, i2, i3, i4⟩ := ih h3
      have e1 := beq_iff_eq.mp h1
      have e2 := beq_iff_eq.mp h2
      subst e1
      subst e2
      exact ⟨pps_cons pe_str pe_str i1, by simpa using i2, by simp [i3], by simp [i4]⟩
    · exact absurd h Bool.false_ne_true
theorem tPairs_SS : ∀ (l : List (Str × Str)) (σ : L2.St) (H : Hp) (Q : List (V × V) → Hp → Prop), Q (l.map fun kv => (V.str kv.1, V.str kv.2)) H → tPairs (tSS l) σ H Q
  | [], _, _, _, h => h
  | kv :: l, σ, H, Q, h => tPairs_SS l σ H (fun ps H3 => Q ((V.str kv.1, V.str kv.2) :: ps) H3) h
theorem noSl_ok {i : Expr} (h : noSlice i = true) : NoSl i := by
  intro ov iv
  cases i <;> first | rfl | exact absurd h Bool.false_ne_true
theorem pe_dselD (ok : POk P) {l : List (Str × Str)} {e : E} {ks : List (Option Expr)} {vs : List Expr} {i : Expr} {dp pos : Pos} (hi : PE P.X i (tD P (ev P.G e))) (h1 : noSlice i = true) (h2 : dspC l ks vs = true) (h3 : (!l.isEmpty) = true) (h4 : l.length ≤ 15) :
    PE P.X (.Subscript (.Dict ks vs dp) i pos) (tD P (ev P.G (.dsel l e))) := by
  obtain ⟨d1, d2, d3, d4⟩ := dsp_pps (X := P.X) (pos := dp) h2
  have hne : ks ≠ [] := fun z => by
    rw [z] at d3
    cases l with
    | nil => exact absurd h3 Bool.false_ne_true
    | cons _ _ => cases d3
  refine PE.imp (pe_dget (by have := ok.hu'; omega) (pe_disp d1 d2 (by rw [d3, d4]) hne (by rw [d3]; exact h4)) hi (noSl_ok h1)) fun σ H Q ⟨F, s, l1, q⟩ => ?_
  have q : RQ P s H F (bnd (ev P.G e s) (dselop l)) Q := q
  intro p hn
  refine tPairs_SS l σ _ _ ⟨upd_same, l.map (fun kv => ((.inr kv.1 : Key), V.str kv.2)), by rw [List.map_map]; rfl, by rw [List.length_map]; exact h4, ?_⟩
  rw [upd_upd]
  have g := grow_new (o := .dK (dsK l)) l1.dom hn
  refine ⟨_, s, l1.grow g, ((RQ.grow g q).bnd).imp fun v H2 ⟨F2, d, g2, r, q2⟩ => ?_⟩
  cases r with
  | str k =>
    have q2 : RQ P s H2 F2 (match valV (dsK l) (.inr k) with
      | some (.str v) => .ok (.str v)
      | _ => .bad) Q := q2
    have gt : DGet H2 p (kV (.inr k)) (valV (dsK l) (.inr k)) := DGet.k (g2.same p _ upd_same)
    cases ee : valV (dsK l) (.inr k) with
    | none => rw [ee] at q2; exact (show False from q2).elim
    | some w =>
      rw [ee] at q2 gt
      cases w with
      | str v => exact ⟨p, .str v, rfl, gt, RQ.ok0 g2.dom q2 (.str v)⟩
      | _ => exact (show False from q2).elim
  | _ => exact (show False from q2).elim
def tRv (K : PySem.W.Frag) (te : TE) : TE := fun σ H Q => te σ H fun x H1 => ∃ a xs, x = .ref a ∧ SqL K H1 a xs ∧ ∀ p, H1 p = none → Q (.ref p) (upd H1 p (.lst xs.reverse))
theorem vals_rev : ∀ {xs : List V} {us : List Value}, Vals xs us → Vals xs.reverse us.reverse := by
  intro xs us r
  induction r with
  | nil => exact .nil
  | @cons x u xs us h t ih =>
    rw [List.reverse_cons, List.reverse_cons]
    have gen : ∀ {zs : List V} {ws : List Value}, Vals zs ws → Vals (zs ++ [x]) (ws ++ [u]) := by
      intro zs ws v
      induction v with
      | nil => exact .cons h .nil
      | cons r _ ih => exact .cons r ih
    exact gen ih
theorem pe_rvs {X : Cx} {e k : Expr} {te tk : TE} {pos p2 : Pos} (he : PE X e te) (hk : PE X k tk) (hm : ∀ σ H (Q : VK), Q (.int (-1)) H → tk σ H Q) : PE X (.Subscript e (.Slice none none (some k) p2) pos) (tRv X.K te) := by
  intro pins s σ H Q I h
  refine Subscript_ (thn (he pins s σ H _ I h) fun v s1 ⟨x, H1, I1, r1, q1⟩ => ?_)
  obtain ⟨a, xs, e1, hq, q⟩ := q1
  subst e1
  cases r1
  refine wpAny_Slice ?_
  rw [evalPart_none]
  refine wpAny_pure (wpAny_pure ?_)
  rw [evalPart_some]
  refine thn (hk pins s1 σ H1 (fun x H2 => x = .int (-1) ∧ H2 = H1) I1 (hm _ _ _ ⟨rfl, rfl⟩)) fun vk s3 ⟨y, H3, I3, r3, e3, e4⟩ => ?_
  subst e3
  subst e4
  obtain ⟨t, rfl⟩ := r3
  have I4 : L2.Inv X pins σ H3 { s3 with heap := s3.heap.push { cls := .type "slice", data := .fields #[.none, .none, .int (-1) t] } } := I3.kept (t' := s3.toks) fun b ob q => Heap.get?_push_of_some _ q
  obtain ⟨its, r, ht, hz⟩ := I4.list hq
  show wpAny (model X.prog X.w) X.A (subscriptTail e (.Slice none none (some k) p2) (.ref a) (.ref s3.heap.objs.size)) (EP X pins σ Q) X.xe { s3 with heap := s3.heap.push { cls := .type "slice", data := .fields #[.none, .none, .int (-1) t] } }
  refine tail_any (ops := [.ref a, .ref s3.heap.objs.size]) ht.isList.typeIs slot_list_getitem.lookup ?_ (by with_unfolding_all rfl)
  refine wpAny_getItem_list_slice ht.isList (Heap.IsSliceOf.new ..) .none .none (.int (-1) t) (by decide) ?_ (by rw [List.size_toArray, ← r.length]; exact hz)
  rw [PySem.W.krv_pick]
  refine ⟨.ref _, _, I4.laid (t' := s3.toks) (o := .lst xs.reverse) (fun b ob q => Heap.get?_push_of_some _ q) (Nat.le_refl _) ?_, rfl, q _ (I4.hok.fresh (Nat.le_refl _))⟩
  exact ⟨by rw [List.length_reverse]; exact hz, _, 0, vals_rev r, Heap.get?_push_size _ rfl⟩
theorem rps_rev {K : PySem.W.Frag} {mg : Str → Option Value} {H : Hp} {F : Fz} : ∀ {vs : List V} {ds : List D}, Rps K mg H F vs ds → Rps K mg H F vs.reverse ds.reverse
  | _, _, .nil => .nil
  | _, _, .cons a b => by rw [List.reverse_cons, List.reverse_cons]; exact (rps_rev b).append (.cons a .nil)
theorem pe_rvsD {a : E} {l : Expr} {j : Nat} {q1 q2 q3 pos : Pos} (ha : PE P.X l (tD P (ev P.G a))) : PE P.X (.Subscript l (.Slice none none (some (.UnaryOp .USub (.Constant (.int 1) j q1) q2)) q3) pos) (tD P (ev P.G (.rvs a))) := by
  refine PE.imp (pe_rvs ha (pe_un un_neg pe_int) fun σ H Q h => ⟨1, rfl, h⟩) fun σ H Q q => ?_
  refine (tD.bnd (f := fun _ => rvsop) q).imp fun v H1 ⟨F1, s1, x, l1, r1, q1⟩ => ?_
  cases r1 with
  | @lst a0 xs ds hl hr =>
    have q1 : RQ P s1 H1 F1 (.own ds.reverse) Q := q1
    refine ⟨a0, xs, rfl, hl.sq, fun p hn => ?_⟩
    obtain ⟨g, nf⟩ := grow_lst (vs := xs.reverse) l1.dom hn
    exact q1 p _ _ F1 g hn nf upd_same ((rps_rev hr).grow g)
  | _ => exact (show False from q1).elim
def viewO (v d : Addr) : HO := .ext fun h => h.IsValuesView v d
def tVal (td : TE) : TE := fun σ H Q => td σ H fun x H1 => ∃ d kvs, x = .ref d ∧ H1 d = some (.dK kvs) ∧ ∀ p, H1 p = none → Q (.ref p) (upd H1 p (viewO p d))
theorem pe_values {X : Cx} {e : Expr} {td : TE} {apos cpos : Pos} (he : PE X e td) (hbase : attributeBase e "values" X.env (eval e X.env) = eval e X.env) (hline : (apos.endLine == cpos.line) = true) : PE X (.Call (.Attribute e "values" apos) [] [] cpos) (tVal td) := by
  intro pins s σ H Q I h
  refine wpAny_Call_method (T := "dict") (id := "dict.values") hbase rfl hline F.plainAttrs_dict F.slot_dict_values F.type_dict_values (thn (he pins s σ H _ I h) fun u s1 ⟨x, H1, I1, rx, d, kvs, ex, hd, q⟩ => ?_)
  subst ex
  obtain rfl : u = Value.ref d := rx
  obtain ⟨hz, hs, vs, kv, dd⟩ := dk_of I1.hok hd
  refine ⟨dd.typeIs, dd.mapOf.noDict, ?_⟩
  show wpAny _ _ (callWith cpos (.builtin "dict.values") [.ref d] [] []) _ X.xe s1
  refine method_meetsIn F.slot_dict_values F.entry_dict_values rfl (PySem.evalArgs_none ⟨rfl, dd.typeIs, F.args_dict_values_1 _, _, meets_dict_values (mixKind X.prog X.w) d hs, ⟨vs, dd⟩, ?_⟩)
  refine ⟨.ref s1.heap.objs.size, _, I1.laid (t' := s1.toks) (o := viewO s1.heap.objs.size d) (fun b ob q => Heap.get?_push_of_some _ q) (Nat.le_refl _) ?_, rfl, q _ (I1.hok.fresh (Nat.le_refl _))⟩
  exact ⟨⟨_, Heap.get?_push_size _ rfl, rfl, rfl⟩, ⟨_, Heap.get?_push_size _ rfl⟩, fun h1 h2 ⟨o, e1, e2, e3⟩ k => ⟨o, k o e1, e2, e3⟩⟩
theorem kv_snd {kvs : List (Key × V)} {vs : List (Key × Value)} (h : KV kvs vs) : Vals (kvs.map (·.2)) (vs.map (·.2)) := by
  unfold KV at h
  induction h with
  | nil => exact .nil
  | cons r _ ih => exact .cons r.2 ih
theorem call_list_vals {X : Cx} (hc : X.calm = true) : CallR X (.type "list") (fun xs H Q => ∃ v d kvs, xs = [.ref v] ∧ H v = some (viewO v d) ∧ H d = some (.dK kvs) ∧ ∀ p, H p = none → Q (.ref p) (upd H p (.lst (kvs.map (·.2))))) := by
  intro pins s σ H xs us Q I r h
  obtain ⟨v, d, kvs, rfl, hv, hd, q⟩ := h
  obtain ⟨u, rfl, rx⟩ := vals1 r
  cases rx
  obtain ⟨hz, hs, vs, kv, dd⟩ := dk_of I.hok hd
  obtain ⟨vw, _, _⟩ := (show ObjOk X.prog X.w H s.heap v (viewO v d) from I.hok v _ hv)
  obtain ⟨ep, hat⟩ := dd.dictAt
  have hlen : kvs.length = vs.length := Paired.length kv
  refine PySem.W.kdl_call (PySem.W.kdl_values (knd := mixKind X.prog X.w) (r := v) (d := d) (kvs := vs) (ep := ep)) (I.ok.hd hc) ⟨vw, hat⟩ (by rw [← hlen]; exact hz) fun h' tk acc' c' hk hD hacc => ?_
  have ea : acc'.toList = vs.map (·.2) := PySem.W.kdl_vals_eq acc'.toList (by rw [Array.length_toList]; exact hacc.1) fun j w e => hacc.2 j w (by rw [← Array.getElem?_toList]; exact e)
  refine ⟨.ref s.heap.objs.size, _, I.laid (t' := tk) hk (Nat.le_refl _) (show ObjOk X.prog X.w _ h' _ (.lst (kvs.map (·.2))) from ⟨by rw [List.length_map]; exact hz, acc'.toList, c', by rw [ea]; exact kv_snd kv, by rw [Array.toArray_toList]; exact hD⟩), rfl, q _ (I.hok.fresh (Nat.le_refl _))⟩
theorem zK_snd : ∀ {ks : List Str} {vs : List V}, ks.length = vs.length → (zK ks vs).map (·.2) = vs
  | [], [], _ => rfl
  | _ :: ks, v :: vs, h => by show v :: (zK ks vs).map (·.2) = v :: vs; rw [zK_snd (by simpa using h)]
  | [], _ :: _, h => by cases h
  | _ :: _, [], h => by cases h
theorem pe_vlsD (ok : POk P) {a : E} {o : Expr} {ap cp p pos : Pos} (ha : PE P.X o (tD P (ev P.G a))) (hg : gl P.X.env.scope "list" = true) (hn : isNm o = true) (hl : (ap.endLine == cp.line) = true) :
    PE P.X (.Call (.Name "list" p) [.Call (.Attribute o "values" ap) [] [] cp] [] pos) (tD P (ev P.G (.vls a))) := by
  have hbase : attributeBase o "values" P.X.env (eval o P.X.env) = eval o P.X.env := by cases o <;> first | rfl | exact absurd hn Bool.false_ne_true
  refine PE.imp (pe_callTy (call_list_vals ok.calm) (gl_ok hg).1 ok.wd.lst0 (by decide +kernel) (pa_cons (pe_values ha hbase hl) pa_nil rfl) (by decide) (gl_ok hg).2 rfl rfl) fun σ H Q q => ?_
  refine (tD.bnd (f := fun _ => vlsop) q).imp fun v H1 ⟨F1, s1, x, l1, r1, q1⟩ => ?_
  cases r1 with
  | @dct a0 ks xs ds hf he hln hr =>
    have q1 : RQ P s1 H1 F1 (if ds.length ≤ sizeLine then .own ds else .bad) Q := q1
    by_cases hz : ds.length ≤ sizeLine
    · rw [if_pos hz] at q1
      refine ⟨a0, _, rfl, he, fun p hn => ?_⟩
      obtain ⟨g0, nf0⟩ := grow_own (o := viewO p a0) l1.dom hn
      refine ⟨p, a0, _, rfl, upd_same, g0.same _ _ he, fun p' hn' => ?_⟩
      rw [zK_snd hln]
      obtain ⟨g, nf⟩ := grow_lst (vs := xs) g0.dom hn'
      have q1 : ∀ p vs H' F', Grow H1 F1 H' F' → H1 p = none → ¬ F' p → H' p = some (.lst vs) → P.rps H' F' vs ds → Q (.ref p) H' := q1
      exact q1 p' _ _ F1 (g0.trans g) (g0.same.free hn') nf upd_same (hr.grow (g0.trans g))
    · rw [if_neg hz] at q1; exact (show False from q1).elim
  | _ => exact (show False from q1).elim
theorem pe_cntD (ok : POk P) {a b : E} {o y : Expr} {ap pos : Pos} (ha : PE P.X o (tD P (ev P.G a))) (hb : PE P.X y (tD P (ev P.G b))) (hn : isNm o = true) (hl : (ap.endLine == pos.line) = true) (hs : noStar y = true) :
    PE P.X (.Call (.Attribute o "count" ap) [y] [] pos) (tD P (ev P.G (.cnt a b))) := by
  have hbase : attributeBase o "count" P.X.env (eval o P.X.env) = eval o P.X.env := by cases o <;> first | rfl | exact absurd hn Bool.false_ne_true
  refine PE.imp (pe_bm PySem.F.plainAttrs_list PySem.F.slot_list_count PySem.F.type_list_count mt_cnt ha (pa_cons hb pa_nil (star_ok hs _ _)) hbase (by rw [star_ok hs]; rfl) hl (star_ok hs _ _) rfl) fun σ H Q q => ?_
  refine (tD.bnd (f := fun s x => cntX x (ev P.G b s)) q).imp fun v H1 ⟨F1, s, x, l1, r1, q1⟩ => ?_
  cases r1 with
  | @lst a xs ds hl hr =>
    have q1 : RQ P s H1 F1 (bnd (ev P.G b s) fun y => cntop (.lst ds) y) Q := q1
    refine ⟨.inl ⟨rfl, xs, hl.sq⟩, F1, s, l1, (RQ.bnd q1).imp fun u H2 ⟨F2, y, g2, r2, q2⟩ => ?_⟩
    cases r2 with
    | int k =>
      have q2 : RQ P s H2 F2 (match intsOf ds with
        | some ns => okI (ns.count k : Nat)
        | none => .bad) Q := q2
      cases e : intsOf ds with
      | none => rw [e] at q2; exact (show False from q2).elim
      | some ns =>
        rw [e] at q2
        refine ⟨a, ns, k, rfl, rfl, ?_, okI_q (l1.grow g2).dom q2⟩
        rw [← intsOf_rps (hr.grow g2) e]
        exact (hl.grow g2).sq
    | _ => exact (show False from q2).elim
  | _ => exact (show False from q1).elim
theorem pts_D (st0 : Shared) (Hb : Hp) (C : Addr) (cl : List (Str × Addr)) (fp : List Addr) {scope : Scope} : PTs (P.X.blk st0 Hb scope (compEnvC scope cl C P.X.env) fp) [] (tB' (tIn P (evcs P.G .nil))) := by
  intro pins s1 σ H Q I ⟨F, s, l, q⟩
  have q : ∀ v H' F', Grow H F H' F' → Rp P.X.K P.X.mg H' F' v (.bl true) → ∃ c, v = .bl c ∧ Q c H' := q
  refine pts_nil pins s1 σ H Q I ?_
  obtain ⟨c, e, q⟩ := q _ H F l.self (.bl true)
  cases e
  exact q
theorem rngC_ok {i j c : Int} (h : (rngOk i && (rngOk j && (decide (0 < c) && decide (c < 1073741824)))) = true) : RgC i j c (rng3N i j c) := by
  obtain ⟨h1, h2⟩ := a2 h
  obtain ⟨h2, h3⟩ := a2 h2
  obtain ⟨h3, h4⟩ := a2 h3
  obtain ⟨r1, r2⟩ := rngOk_ok h1
  obtain ⟨r3, r4⟩ := rngOk_ok h2
  have c0 := of_decide_eq_true h3
  have c1 := of_decide_eq_true h4
  have hs : Builtin.Range.rangeSize i j c = (rng3N i j c : Nat) := by
    unfold Builtin.Range.rangeSize rng3N
    rw [if_pos c0]
    by_cases hij : i < j
    · rw [if_pos hij, if_neg (by omega)]
      have : 0 ≤ (j - i - 1) / c := Int.ediv_nonneg (by omega) (by omega)
      omega
    · rw [if_neg hij, if_pos (by omega)]
      rfl
  refine ⟨by omega, by omega, ?_, hs⟩
  unfold Builtin.Range.small
  rw [hs]
  have hb : (rng3N i j c : Int) ≤ (if i < j then j - i else 0) := by
    unfold rng3N
    by_cases hij : i < j
    · rw [if_neg (by omega), if_pos hij]
      have : (j - i - 1) / c ≤ j - i - 1 := Int.ediv_le_self _ (by omega)
      have : 0 ≤ (j - i - 1) / c := Int.ediv_nonneg (by omega) (by omega)
      omega
    · rw [if_pos (by omega), if_neg hij]; decide
  simp only [Builtin.Range.rangeFitsLong, Bool.and_eq_true, Bool.or_eq_true, decide_eq_true_eq, beq_iff_eq, if_pos c0]
  split at hb <;> omega
theorem rng3_q {a b c : E} {σ : L2.St} {H : Hp} {F : Fz} {s : En} {R : L2.It → Hp → Prop} (l : Rl P H F σ s) (q : (match evi P.G (.rng3 a b c) s with
      | .ok ds => ∀ J H' F', Grow H F H' F' → Gives P J ds H' F' → R J H'
      | .exn d => P.W d s
      | .bad => False)) : RQ P s H F (ev P.G a s) fun v1 H1 => tD P (ev P.G b) σ H1 fun v2 H2 => tD P (ev P.G c) σ H2 fun v3 H3 => ∃ (i j k : Int) (n : Nat), [v1, v2, v3] = [.int i, .int j, .int k] ∧ RgC i j k n ∧ R (Itc i k n) H3 := by
  have q : (match bndI (ev P.G a s) fun x => bndI (ev P.G b s) fun y => bndI (ev P.G c s) fun z => rng3op x y z with
      | .ok ds => ∀ J H' F', Grow H F H' F' → Gives P J ds H' F' → R J H'
      | .exn d => P.W d s
      | .bad => False) := q
  have bi : ∀ {r : Nf.R} {f : D → RL} {H1 : Hp} {F1 : Fz} {K : D → V → Hp → Fz → Prop}, (match bndI r f with
      | .ok ds => ∀ J H' F', Grow H F H' F' → Gives P J ds H' F' → R J H'
      | .exn d => P.W d s
      | .bad => False) → (∀ d v H2 F2, Grow H1 F1 H2 F2 → P.rp H2 F2 v d → (match f d with
      | .ok ds => ∀ J H' F', Grow H F H' F' → Gives P J ds H' F' → R J H'
      | .exn d => P.W d s
      | .bad => False) → K d v H2 F2) → RQ P s H1 F1 r fun v H2 => ∃ d F2, K d v H2 F2 := fun {r f H1 F1 K} q k => by
    cases r with
    | ok d => exact fun v H2 F2 g rv => ⟨d, F2, k d v H2 F2 g rv q⟩
    | own ds =>
      intro p vs H2 F2 g n nf e rv
      obtain ⟨g3, q3⟩ := frz_new g n e rv
      exact ⟨_, _, k _ _ _ _ g3 q3 q⟩
    | exn d => exact q
    | bad => exact q
  refine (bi (K := fun x v1 H1 F1 => tD P (ev P.G b) σ H1 fun v2 H2 => tD P (ev P.G c) σ H2 fun v3 H3 => ∃ (i j k : Int) (n : Nat), [v1, v2, v3] = [.int i, .int j, .int k] ∧ RgC i j k n ∧ R (Itc i k n) H3) q fun x v1 H1 F1 g1 r1 q1 => ?_).imp fun v H1 ⟨_, _, z⟩ => z
  refine ⟨F1, s, l.grow g1, (bi (K := fun y v2 H2 F2 => tD P (ev P.G c) σ H2 fun v3 H3 => ∃ (i j k : Int) (n : Nat), [v1, v2, v3] = [.int i, .int j, .int k] ∧ RgC i j k n ∧ R (Itc i k n) H3) q1 fun y v2 H2 F2 g2 r2 q2 => ?_).imp fun v H1 ⟨_, _, z⟩ => z⟩
  refine ⟨F2, s, (l.grow g1).grow g2, (bi (K := fun z v3 H3 F3 => ∃ (i j k : Int) (n : Nat), [v1, v2, v3] = [.int i, .int j, .int k] ∧ RgC i j k n ∧ R (Itc i k n) H3) q2 fun z v3 H3 F3 g3 r3 q3 => ?_).imp fun v H1 ⟨_, _, z⟩ => z⟩
  cases r1 with
  | int i =>
    cases r2 with
    | int j =>
      cases r3 with
      | int k =>
        have q3 : (match (if rngOk i && (rngOk j && (decide (0 < k) && decide (k < 1073741824))) then RL.ok (rngC i k (rng3N i j k)) else RL.bad) with
          | .ok ds => ∀ J H' F', Grow H F H' F' → Gives P J ds H' F' → R J H'
          | .exn d => P.W d s
          | .bad => False) := q3
        by_cases hr : (rngOk i && (rngOk j && (decide (0 < k) && decide (k < 1073741824)))) = true
        · rw [if_pos hr] at q3
          exact ⟨i, j, k, _, rfl, rngC_ok hr, q3 _ _ _ ((g1.trans g2).trans g3) gives_rngC⟩
        · rw [if_neg hr] at q3; exact q3.elim
      | _ => exact (show False from q3).elim
    | _ => exact (show False from q3).elim
  | _ => exact (show False from q3).elim
mutual
theorem se : ∀ (e : E) (P : Px) (ok : POk P) (x : Expr), mE P.gz P.G P.X.N P.X.env.scope e x = true → PE P.X x (tD P (ev P.G e))
  | .var i, P, ok, x, h => by
    cases x with
    | Name y pos =>
      obtain ⟨h1, h2, h3, h4⟩ := vis_ok h
      refine PE.imp (pe_var h1 h2 h3 h4) fun σ H Q ⟨F, s, l, q⟩ => ?_
      have q : RQ P s H F (look s i) Q := q
      unfold look at q
      cases e : s[i]? with
      | none => rw [e] at q; exact (show False from q).elim
      | some sl =>
        rw [e] at q
        cases sl with
        | val d =>
          obtain ⟨o, e1, v, e2, r⟩ := l.slot i _ e
          subst e2
          exact ⟨v, e1, RQ.ok0 l.dom q r⟩
        | _ => exact (show False from q).elim
    | _ => exact absurd h Bool.false_ne_true
  | .glob c, P, ok, x, h => by
    cases x with
    | Name y pos =>
      obtain ⟨h1, h2⟩ := a2 h
      obtain ⟨h2, h3⟩ := a2 h2
      have e : c = y := beq_iff_eq.mp h1
      subst e
      obtain ⟨g1, g2⟩ := gl_ok h2
      obtain ⟨d, e⟩ := Option.isSome_iff_exists.mp h3
      obtain ⟨v, u, m, r, k⟩ := ok.wd.con c d e
      refine PE.imp (pe_glob g1 m r g2) fun σ H Q ⟨F, s, l, q⟩ => ?_
      have q : RQ P s H F (conop (P.G.con c)) Q := q
      rw [e] at q
      exact RQ.ok0 l.dom q (k H F)
    | _ => exact absurd h Bool.false_ne_true
  | .cn, P, ok, x, h => by
    cases x with
    | Constant c k pos =>
      cases c with
      | none => exact PE.imp pe_non fun σ H Q ⟨F, s, l, q⟩ => RQ.ok0 l.dom q .non
      | _ => exact absurd h Bool.false_ne_true
    | _ => exact absurd h Bool.false_ne_true
  | .cb b, P, ok, x, h => by
    cases x with
    | Constant c k pos =>
      cases c with
      | bool c =>
        have e : b = c := beq_iff_eq.mp h
        subst e
        exact PE.imp pe_bl fun σ H Q ⟨F, s, l, q⟩ => RQ.ok0 l.dom q (.bl b)
      | _ => exact absurd h Bool.false_ne_true
    | _ => exact absurd h Bool.false_ne_true
  | .ci b, P, ok, x, h => by
    cases x with
    | Constant c k pos =>
      cases c with
      | int c =>
        have e : b = c := beq_iff_eq.mp h
        subst e
        exact PE.imp pe_int fun σ H Q ⟨F, s, l, q⟩ => RQ.ok0 l.dom q (.int b)
      | _ => exact absurd h Bool.false_ne_true
    | _ => exact absurd h Bool.false_ne_true
  | .cs b, P, ok, x, h => by
    cases x with
    | Constant c k pos =>
      cases c with
      | str c =>
        have e : b = c := beq_iff_eq.mp h
        subst e
        exact PE.imp pe_str fun σ H Q ⟨F, s, l, q⟩ => RQ.ok0 l.dom q (.str b)
      | _ => exact absurd h Bool.false_ne_true
    | _ => exact absurd h Bool.false_ne_true
  | .bin op a b, P, ok, x, h => by
    cases x with
    | BinOp l o r pos =>
      obtain ⟨h1, h2⟩ := a2 h
      obtain ⟨h2, h3⟩ := a2 h2
      have e : op = o := of_decide_eq_true h1
      subst e
      exact PE.imp (pe_op (op_bin rfl op) (se a P ok l h2) (se b P ok r h3)) fun σ H Q q => (tD.two q).imp fun v H1 z => z.imp fun u H2 w => w.o
    | _ => exact absurd h Bool.false_ne_true
  | .neg a, P, ok, x, h => by
    cases x with
    | UnaryOp o l pos =>
      cases o with
      | USub =>
        exact PE.imp (pe_un (un_D rfl) (se a P ok l h)) fun σ H Q q => (tD.bnd (f := fun _ => negop) q).imp fun v H' ⟨F', s, d, l, r, q⟩ => ⟨F', s, d, l.dom, r, q⟩
      | _ => exact absurd h Bool.false_ne_true
    | _ => exact absurd h Bool.false_ne_true
  | .and a b, P, ok, x, h => by
    have key : ∀ {l y : Expr} {t : List Expr} {p : Pos}, PE P.X l (tD P (ev P.G a)) → PE P.X (.BoolOp .And (y :: t) p) (tD P (ev P.G b)) → PE P.X (.BoolOp .And (l :: y :: t) p) (tD P (ev P.G (.and a b))) := fun h1 h2 => by
      refine PE.imp (pe_and h1 h2) fun σ H Q q => ?_
      refine (tD.bnd (f := fun s x => cond x (ev P.G b s) (okB false)) q).imp fun v H' ⟨F', s, d, l, r, q⟩ => ?_
      obtain ⟨c, e, q⟩ := cond_q r q
      refine ⟨c, e, ?_⟩
      cases c with
      | true => rw [if_pos rfl] at q ⊢; exact ⟨F', s, l, q⟩
      | false => rw [if_neg Bool.false_ne_true] at q ⊢; exact okB_q l.dom q
    cases x with
    | BoolOp o es p =>
      cases o with
      | And =>
        match es, h with
        | [], h => exact absurd h Bool.false_ne_true
        | [_], h => exact absurd h Bool.false_ne_true
        | [l, r], h =>
          obtain ⟨h1, h2⟩ := a2 h
          exact key (se a P ok l h1) (pe_one (se b P ok r h2))
        | l :: r :: r' :: t, h =>
          obtain ⟨h1, h2⟩ := a2 h
          exact key (se a P ok l h1) (se b P ok _ h2)
      | Or => cases es <;> exact absurd h Bool.false_ne_true
    | _ => exact absurd h Bool.false_ne_true
  | .or a b, P, ok, x, h => by
    have key : ∀ {l y : Expr} {t : List Expr} {p : Pos}, PE P.X l (tD P (ev P.G a)) → PE P.X (.BoolOp .Or (y :: t) p) (tD P (ev P.G b)) → PE P.X (.BoolOp .Or (l :: y :: t) p) (tD P (ev P.G (.or a b))) := fun h1 h2 => by
      refine PE.imp (pe_or h1 h2) fun σ H Q q => ?_
      refine (tD.bnd (f := fun s x => cond x (okB true) (ev P.G b s)) q).imp fun v H' ⟨F', s, d, l, r, q⟩ => ?_
      obtain ⟨c, e, q⟩ := cond_q r q
      refine ⟨c, e, ?_⟩
      cases c with
      | true => rw [if_pos rfl] at q ⊢; exact okB_q l.dom q
      | false => rw [if_neg Bool.false_ne_true] at q ⊢; exact ⟨F', s, l, q⟩
    cases x with
    | BoolOp o es p =>
      cases o with
      | Or =>
        match es, h with
        | [], h => exact absurd h Bool.false_ne_true
        | [_], h => exact absurd h Bool.false_ne_true
        | [l, r], h =>
          obtain ⟨h1, h2⟩ := a2 h
          exact key (se a P ok l h1) (pe_one (se b P ok r h2))
        | l :: r :: r' :: t, h =>
          obtain ⟨h1, h2⟩ := a2 h
          exact key (se a P ok l h1) (se b P ok _ h2)
      | And => cases es <;> exact absurd h Bool.false_ne_true
    | _ => exact absurd h Bool.false_ne_true
  | .not a, P, ok, x, h => by
    cases x with
    | UnaryOp o l pos =>
      cases o with
      | Not =>
        exact PE.imp (pe_not (se a P ok l h)) fun σ H Q q => (tD.bnd (f := fun _ => notop) q).imp fun v H' ⟨F', s, d, l, r, q⟩ => not_q l.dom r q
      | _ => exact absurd h Bool.false_ne_true
    | _ => exact absurd h Bool.false_ne_true
  | .cmp op a b, P, ok, x, h => by
    cases x with
    | Compare l os rs pos =>
      match os, rs, h with
      | [o], [r], h =>
        obtain ⟨h1, h2⟩ := a2 h
        obtain ⟨h2, h3⟩ := a2 h2
        obtain ⟨h3, h4⟩ := a2 h3
        have e : op = o := of_decide_eq_true h1
        subst e
        exact PE.imp (pe_cmpR (op_cmp rfl ok.hu' op) (se a P ok l h3) (se b P ok r h4) (by simpa using h2)) fun σ H Q q => (tD.two q).imp fun v H1 z => z.imp fun u H2 w => w.o
      | [], _, h => exact absurd h Bool.false_ne_true
      | [_], [], h => exact absurd h Bool.false_ne_true
      | [_], _ :: _ :: _, h => exact absurd h Bool.false_ne_true
      | _ :: _ :: _, _, h => exact absurd h Bool.false_ne_true
    | _ => exact absurd h Bool.false_ne_true
  | .chain o p a b c, P, ok, x, h => by
    cases x with
    | Compare l os rs pos =>
      match os, rs, h with
      | [o', p'], [r, t], h =>
        obtain ⟨h1, h7⟩ := a2 h
        obtain ⟨h2, h8⟩ := a2 h7
        obtain ⟨h3, h9⟩ := a2 h8
        obtain ⟨h4, h10⟩ := a2 h9
        obtain ⟨h5, h6⟩ := a2 h10
        have e : o = o' := of_decide_eq_true h1
        have e2 : p = p' := of_decide_eq_true h2
        subst e e2
        exact PE.imp (pe_chain (op_cmp rfl ok.hu' o) (op_cmp rfl ok.hu' p) (se a P ok l h4) (se b P ok r h5) (se c P ok t h6) (by simpa using h3)) fun σ H Q q => chain_r q
      | [], _, h => exact absurd h Bool.false_ne_true
      | [_], _, h => exact absurd h Bool.false_ne_true
      | [_, _], [], h => exact absurd h Bool.false_ne_true
      | [_, _], [_], h => exact absurd h Bool.false_ne_true
      | [_, _], _ :: _ :: _ :: _, h => exact absurd h Bool.false_ne_true
      | _ :: _ :: _ :: _, _, h => exact absurd h Bool.false_ne_true
    | _ => exact absurd h Bool.false_ne_true
  | .ifx c a b, P, ok, x, h => by
    cases x with
    | IfExp t l r pos =>
      obtain ⟨h1, h2⟩ := a2 h
      obtain ⟨h2, h3⟩ := a2 h2
      refine PE.imp (pe_ifExp (st c P ok t h1) (se a P ok l h2) (se b P ok r h3)) fun σ H Q q => ?_
      refine (tD.bnd (f := fun s z => cond z (ev P.G a s) (ev P.G b s)) q).imp fun v H' ⟨F', s, d, l, r, q⟩ => ?_
      obtain ⟨c, e, q⟩ := cond_q r q
      refine ⟨c, e, ?_⟩
      cases c with
      | true => rw [if_pos rfl] at q ⊢; exact ⟨F', s, l, q⟩
      | false => rw [if_neg Bool.false_ne_true] at q ⊢; exact ⟨F', s, l, q⟩
    | _ => exact absurd h Bool.false_ne_true
  | .tup l, P, ok, x, h => by
    cases x with
    | Tuple es k pos =>
      refine PE.imp (pe_tup (sa l P ok es h)) fun σ H Q q => ?_
      refine (tD.bndL (f := fun _ => tupop) q).imp fun vs H' ⟨F', s, ds, l, r, q⟩ => ?_
      have q : RQ P s H' F' (if ds.length ≤ sizeLine then .ok (.tup ds) else .bad) Q := q
      by_cases hz : ds.length ≤ sizeLine
      · rw [if_pos hz] at q
        refine ⟨by rw [r.length]; exact hz, fun p hn => ?_⟩
        have gr := grow_new (o := .tup vs) l.dom hn
        exact q _ _ _ gr (.tup (.inl ⟨.inr rfl, .inl upd_same⟩) (r.grow gr))
      · rw [if_neg hz] at q; exact (show False from q).elim
    | _ => exact absurd h Bool.false_ne_true
  | .lst l, P, ok, x, h => by
    cases x with
    | List es pos =>
      refine PE.imp (pe_lst (sa l P ok es h)) fun σ H Q q => ?_
      refine (tD.bndL (f := fun _ => lstop) q).imp fun vs H' ⟨F', s, ds, l, r, q⟩ => ?_
      have q : RQ P s H' F' (if ds.length ≤ sizeLine then .own ds else .bad) Q := q
      by_cases hz : ds.length ≤ sizeLine
      · rw [if_pos hz] at q
        refine ⟨by rw [r.length]; exact hz, fun p hn => ?_⟩
        obtain ⟨gr, nf⟩ := grow_own (o := .lst vs) l.dom hn
        exact q p vs _ _ gr hn nf upd_same (r.grow gr)
      · rw [if_neg hz] at q; exact (show False from q).elim
    | _ => exact absurd h Bool.false_ne_true
  | .idx a i, P, ok, x, h => by
    cases x with
    | Subscript l r pos =>
      obtain ⟨h1, h2⟩ := a2 h
      obtain ⟨h2, h3⟩ := a2 h2
      exact PE.imp (pe_ix (ix_D rfl (by have := ok.hu'; omega)) (se a P ok l h2) (se i P ok r h3) (slice_ok h1)) fun σ H Q q => (tD.two q).imp fun v H1 z => z.imp fun u H2 w => w.o
    | _ => exact absurd h Bool.false_ne_true
  | .slc a lo hi, P, ok, x, h => by
    unfold mE at h
    split at h
    · rename_i l p q sp pos
      obtain ⟨h1, h2⟩ := a2 h
      obtain ⟨h2, h3⟩ := a2 h2
      have po : ∀ (e : E) (p : Option Expr), (∀ y, mE P.gz P.G P.X.N P.X.env.scope e y = true → PE P.X y (tD P (ev P.G e))) → mOp e p (fun y => mE P.gz P.G P.X.N P.X.env.scope e y) = true → PO P.X p (tO P (ev P.G e)) := fun e p he hm => by
        cases p with
        | none =>
          cases e with
          | nil => exact po_N
          | _ => exact absurd hm Bool.false_ne_true
        | some y => exact po_D (he y hm)
      refine PE.imp (pe_slice (SlR.or sl_list sl_str) (se a P ok l h1) (po lo p (se lo P ok) h2) (po hi q (se hi P ok) h3)) fun σ H Q q => ?_
      refine (tD.bnd (f := fun s x => bndP (ev P.G lo s) fun l => bndP (ev P.G hi s) fun h => slcop x l h) q).imp fun v H1 ⟨F1, s1, x, l1, r1, q1⟩ => ?_
      refine ⟨F1, s1, l1, (RQ.bndP q1).imp fun u H2 ⟨F2, g2, q2⟩ => ?_⟩
      have key : ∀ lo', RQ P s1 H2 F2 (bndP (ev P.G hi s1) fun h => slcop x lo' h) Q → tO P (ev P.G hi) σ H2 (fun hi' H3 => rSlL P.X.K v lo' hi' H3 Q ∨ rSlS v lo' hi' H3 Q) := fun lo' q2 => by
        refine ⟨F2, s1, l1.grow g2, (RQ.bndP q2).imp fun w H3 ⟨F3, g3, q3⟩ => ?_⟩
        rcases q3 with ⟨e, q3⟩ | ⟨i, e, q3⟩
        · exact .inl ⟨e, sl_D ((l1.grow g2).grow g3).dom ((r1.grow g2).grow g3) q3⟩
        · exact .inr ⟨i, e, sl_D ((l1.grow g2).grow g3).dom ((r1.grow g2).grow g3) q3⟩
      rcases q2 with ⟨e, q2⟩ | ⟨i, e, q2⟩
      · exact .inl ⟨e, key none q2⟩
      · exact .inr ⟨i, e, key (some i) q2⟩
    · exact absurd h Bool.false_ne_true
  | .nil, P, ok, x, h => absurd h Bool.false_ne_true
  | .call f l, P, ok, x, h => by
    cases x with
    | Call fx es ks pos =>
      cases fx with
      | Name g p =>
        cases ks with
        | nil =>
          obtain ⟨h1, h2⟩ := a2 h
          obtain ⟨h2, h3⟩ := a2 h2
          obtain ⟨h3, h4⟩ := a2 h3
          have e : f = g := beq_iff_eq.mp h1
          subst e
          exact pe_callF ok (sa l P ok es h4) h2 h3 h4
        | cons _ _ => exact absurd h Bool.false_ne_true
      | _ => exact absurd h Bool.false_ne_true
    | _ => exact absurd h Bool.false_ne_true
  | .blt f l, P, ok, x, h => by
    cases x with
    | Call fx es ks pos =>
      cases fx with
      | Name g p =>
        cases es with
        | nil => exact absurd h Bool.false_ne_true
        | cons e es =>
          cases ks with
          | nil =>
            obtain ⟨h1, h2⟩ := a2 h
            obtain ⟨h2, h3⟩ := a2 h2
            have e' : f.name = g := beq_iff_eq.mp h1
            subst e'
            exact pe_blt ok (sa l P ok (e :: es) h3) h2 h3
          | cons _ _ => exact absurd h Bool.false_ne_true
      | _ => exact absurd h Bool.false_ne_true
    | _ => exact absurd h Bool.false_ne_true
  | .isi a cs, P, ok, x, h => by
    cases x with
    | Call fx es ks pos =>
      cases fx with
      | Name g p =>
        match es, ks, h with
        | [l, r], [], h =>
          obtain ⟨h1, h2⟩ := a2 h
          obtain ⟨h2, h3⟩ := a2 h2
          obtain ⟨h3, h4⟩ := a2 h3
          obtain ⟨h4, h5⟩ := a2 h4
          have e' : g = ("isinstance" : Str) := beq_iff_eq.mp h1
          subst e'
          exact pe_isi ok (se a P ok l h4) h3 h2 h5
        | [], _, h => exact absurd h Bool.false_ne_true
        | [_], _, h => exact absurd h Bool.false_ne_true
        | _ :: _ :: _ :: _, _, h => exact absurd h Bool.false_ne_true
        | [_, _], _ :: _, h => exact absurd h Bool.false_ne_true
      | _ => exact absurd h Bool.false_ne_true
    | _ => exact absurd h Bool.false_ne_true
  | .mth a m l, P, ok, x, h => by
    unfold mE at h
    split at h
    · rename_i o n ap y ys cp
      obtain ⟨h1, h2⟩ := a2 h
      obtain ⟨h2, h3⟩ := a2 h2
      obtain ⟨h3, h4⟩ := a2 h3
      obtain ⟨h4, h5⟩ := a2 h4
      obtain ⟨h5, h6⟩ := a2 h5
      have e : m = n := beq_iff_eq.mp h1
      subst e
      have hb : attributeBase o m P.X.env (eval o P.X.env) = eval o P.X.env := by
        unfold okBs at h4
        split at h4
        · rfl
        · rfl
        · exact absurd h4 Bool.false_ne_true
      exact pe_methD ok (se a P ok o h5) hb h2 (of_decide_eq_true h3) (sa l P ok (y :: ys) h6) h6
    · exact absurd h Bool.false_ne_true
  | .bitl a, P, ok, x, h => by
    unfold mE at h
    split at h
    · rename_i o m ap cp
      obtain ⟨h1, h2⟩ := a2 h
      obtain ⟨h2, h3⟩ := a2 h2
      obtain ⟨h3, h4⟩ := a2 h3
      have e : m = ("bit_length" : Str) := beq_iff_eq.mp h1
      subst e
      have hb : attributeBase o "bit_length" P.X.env (eval o P.X.env) = eval o P.X.env := by cases o <;> first | rfl | exact absurd h2 Bool.false_ne_true
      refine PE.imp (pe_bm0 PySem.F.plainAttrs_int PyProof.Rows.slot_int_bit_length PyProof.Rows.type_int_bit_length mt_bitl (se a P ok o h4) hb h3) fun σ H Q q => ?_
      exact (tD.bnd (f := fun _ => bitlop) q).imp fun v H1 ⟨F1, s1, x, l1, r1, q1⟩ => bitl_D l1.dom r1 q1
    · exact absurd h Bool.false_ne_true
  | .att a f, P, ok, x, h => absurd h Bool.false_ne_true
  | .new c, P, ok, x, h => by
    unfold mE at h
    split at h
    · rename_i g gp pos
      obtain ⟨h1, h2⟩ := a2 h
      obtain ⟨h2, h3⟩ := a2 h2
      have e : c = g := beq_iff_eq.mp h1
      subst e
      exact pe_newD ok h2 h3
    · exact absurd h Bool.false_ne_true
  | .callk f l k e, P, ok, x, h => by
    unfold mE at h
    split at h
    · rename_i g gp y ys n z kp pos
      obtain ⟨h1, h2⟩ := a2 h
      obtain ⟨h2, h3⟩ := a2 h2
      obtain ⟨h3, h4⟩ := a2 h3
      obtain ⟨h4, h5⟩ := a2 h4
      obtain ⟨h5, h6⟩ := a2 h5
      have e1 : f = g := beq_iff_eq.mp h1
      have e2 : k = n := beq_iff_eq.mp h2
      subst e1 e2
      exact pe_callKw ok (sa l P ok (y :: ys) h5) (se e P ok z h6) h3 h4 h5
    · exact absurd h Bool.false_ne_true
  | .anyg t it e, P, ok, x, h => by
    unfold mE at h
    split at h
    · rename_i f fp elt tg iter scope gp pos
      obtain ⟨h1, h2⟩ := a2 h
      obtain ⟨h2, h3⟩ := a2 h2
      obtain ⟨h3, h4⟩ := a2 h3
      have e' : f = ("any" : Str) := beq_iff_eq.mp h1
      subst e'
      obtain ⟨i1, i2⟩ := si it P ok tg iter h3
      exact pe_anD ok i1 i2 h2 fun Q okQ e1 e2 e3 e4 => by
        have := se e Q okQ elt (by rw [e1, e2, e3, e4]; exact h4)
        rw [e3] at this
        exact this
    · exact absurd h Bool.false_ne_true
  | .sumg t it e, P, ok, x, h => by
    unfold mE at h
    split at h
    · rename_i f fp elt tg iter scope gp pos
      obtain ⟨h1, h2⟩ := a2 h
      obtain ⟨h2, h3⟩ := a2 h2
      obtain ⟨h3, h4⟩ := a2 h3
      have e' : f = ("sum" : Str) := beq_iff_eq.mp h1
      subst e'
      obtain ⟨i1, i2⟩ := si it P ok tg iter h3
      exact pe_suD ok i1 i2 h2 fun Q okQ e1 e2 e3 e4 => by
        have := se e Q okQ elt (by rw [e1, e2, e3, e4]; exact h4)
        rw [e3] at this
        exact this
    · exact absurd h Bool.false_ne_true
  | .dnw, P, ok, x, h => by
    unfold mE at h
    split at h
    · refine PE.imp pe_dnewK fun σ H Q ⟨F, s, l, q⟩ => ?_
      have q : RQ P s H F (.ok (.dct [] [])) Q := q
      intro p hn
      have g := grow_new (o := .dK []) l.dom hn
      exact q _ _ _ g (.dct (.inr rfl) upd_same rfl .nil)
    · exact absurd h Bool.false_ne_true
  | .dix i k, P, ok, x, h => by
    unfold mE at h
    split at h
    · rename_i y yp r pos
      obtain ⟨h1, h2⟩ := a2 h
      obtain ⟨h2, h3⟩ := a2 h2
      obtain ⟨v1, v2, v3, v4⟩ := vis_ok h1
      refine PE.imp (pe_dget (by have := ok.hu'; omega) (pe_var v1 v2 v3 v4) (se k P ok r h3) (noSl_ok h2)) fun σ H Q ⟨F, s, l, q⟩ => ?_
      have q : RQ P s H F (dixop s[i]? (ev P.G k s)) Q := q
      have fin : ∀ {a : Addr} {ks : List Str} {vs : List V} {ds : List D}, H a = some (.dK (zK ks vs)) → P.rps H F vs ds → RQ P s H F (bnd (ev P.G k s) fun y => idxop (.dct ks ds) y) Q → tD P (ev P.G k) σ H fun y H2 => ∃ a' w, V.ref a = .ref a' ∧ DGet H2 a' y (some w) ∧ Q w H2 := fun {a ks vs ds} ha hr q => by
        refine ⟨F, s, l, (RQ.bnd q).imp fun v H2 ⟨F2, d, g2, r2, q2⟩ => ?_⟩
        cases r2 with
        | str w =>
          have q2 : RQ P s H2 F2 (match dgL ks ds w with | some d => .ok d | none => .bad) Q := q2
          cases e : dgL ks ds w with
          | none => rw [e] at q2; exact (show False from q2).elim
          | some d =>
            rw [e] at q2
            obtain ⟨z, e1, r1⟩ := zK_val (hr.grow g2) e
            refine ⟨a, z, rfl, ?_, RQ.ok0 (l.grow g2).dom q2 r1⟩
            rw [← e1]
            exact DGet.k (k := .inr w) (g2.same _ _ ha)
        | int w => exact (show False from q2).elim
        | _ => exact (show False from q2).elim
      cases e : s[i]? with
      | none => rw [e] at q; exact (show False from q).elim
      | some sl =>
        rw [e] at q
        cases sl with
        | dic ks ds =>
          obtain ⟨o, e1, p', vs, e2, e3, nf, h0, hl, hr⟩ := l.slot i _ e
          subst e2
          exact ⟨_, e1, fin e3 hr q⟩
        | val d =>
          cases d with
          | dct ks ds =>
            obtain ⟨o, e1, v, e2, rv⟩ := l.slot i _ e
            subst e2
            cases rv with
            | dct hf he hln hr => exact ⟨_, e1, fin he hr q⟩
          | _ => exact (show False from q).elim
        | _ => exact (show False from q).elim
    · exact absurd h Bool.false_ne_true
  | .vls a, P, ok, x, h => by
    unfold mE at h
    split at h
    · rename_i g gp o m ap cp pos
      obtain ⟨h1, k1⟩ := a2 h
      obtain ⟨h2, k2⟩ := a2 k1
      obtain ⟨h3, k3⟩ := a2 k2
      obtain ⟨h4, k4⟩ := a2 k3
      obtain ⟨h5, h6⟩ := a2 k4
      have e : g = ("list" : Str) := beq_iff_eq.mp h1
      subst e
      have e : m = ("values" : Str) := beq_iff_eq.mp h3
      subst e
      exact pe_vlsD ok (se a P ok o h6) h2 h4 h5
    · exact absurd h Bool.false_ne_true
  | .rvs a, P, ok, x, h => by
    unfold mE at h
    split at h
    · exact pe_rvsD (se a P ok _ h)
    · exact absurd h Bool.false_ne_true
  | .dsel l e, P, ok, x, h => by
    unfold mE at h
    split at h
    · rename_i ks vs dp i pos
      obtain ⟨h1, h2⟩ := a2 h
      obtain ⟨h2, h3⟩ := a2 h2
      obtain ⟨h3, h4⟩ := a2 h3
      obtain ⟨h4, h5⟩ := a2 h4
      exact pe_dselD ok (se e P ok i h5) h1 h2 h3 (of_decide_eq_true h4)
    · exact absurd h Bool.false_ne_true
  | .sta a l, P, ok, x, h => by
    unfold mE at h
    split at h
    · rename_i y py ys k pos
      obtain ⟨h1, h2⟩ := a2 h
      refine PE.imp (pe_tup (pa_star (se a P ok y h1) (sa l P ok ys h2))) fun σ H Q q => ?_
      refine (tD.bnd (f := fun s x => staX x (evs P.G l s)) q).imp fun v H1 ⟨F1, s, x, l1, r1, q1⟩ => ?_
      cases r1 with
      | @tup a0 xs ds hl hr =>
        have q1 : RQ P s H1 F1 (bndL (evs P.G l s) fun es => tupop (ds ++ es)) Q := q1
        refine ⟨a0, xs, rfl, hl.sq, F1, s, l1, (RQ.bndL q1).imp fun vs H2 ⟨F2, es, g2, r2, q2⟩ => ?_⟩
        have q2 : RQ P s H2 F2 (if (ds ++ es).length ≤ sizeLine then .ok (.tup (ds ++ es)) else .bad) Q := q2
        by_cases hz : (ds ++ es).length ≤ sizeLine
        · rw [if_pos hz] at q2
          refine ⟨by rw [List.length_append, hr.length, r2.length, ← List.length_append]; exact hz, fun p hn => ?_⟩
          have gr := grow_new (o := .tup (xs ++ vs)) (l1.grow g2).dom hn
          exact q2 _ _ _ gr (.tup (.inl ⟨.inr rfl, .inl upd_same⟩) (((hr.grow g2).append r2).grow gr))
        · rw [if_neg hz] at q2; exact (show False from q2).elim
      | _ => exact (show False from q1).elim
    · exact absurd h Bool.false_ne_true
  | .cnt a b, P, ok, x, h => by
    unfold mE at h
    split at h
    · rename_i o m ap y cp
      obtain ⟨h1, h2⟩ := a2 h
      obtain ⟨h2, h3⟩ := a2 h2
      obtain ⟨h3, h4⟩ := a2 h3
      obtain ⟨h4, h5⟩ := a2 h4
      obtain ⟨h5, h6⟩ := a2 h5
      have e : m = ("count" : Str) := beq_iff_eq.mp h1
      subst e
      exact pe_cntD ok (se a P ok o h5) (se b P ok y h6) h2 h3 h4
    · exact absurd h Bool.false_ne_true
  | .cpy a, P, ok, x, h => by
    unfold mE at h
    split at h
    · rename_i g gp l pos
      obtain ⟨h1, h2⟩ := a2 h
      obtain ⟨h2, h3⟩ := a2 h2
      obtain ⟨h3, h4⟩ := a2 h3
      have e : g = ("list" : Str) := beq_iff_eq.mp h1
      subst e
      refine PE.imp (pe_callTy call_list_of (gl_ok h2).1 ok.wd.lst0 (by decide +kernel) (pa_cons (se a P ok l h4) pa_nil (star_ok h3 _ _)) (by decide) (gl_ok h2).2 (star_ok h3 _ _) rfl) fun σ H Q q => ?_
      exact (tD.bnd (f := fun _ => cpyop) q).imp fun v H1 ⟨F1, s1, x, l1, r1, q1⟩ => cpy_D l1.dom r1 q1
    · exact absurd h Bool.false_ne_true
  | .lc t it .nil e, P, ok, x, h => by
    unfold mE at h
    split at h
    · rename_i elt tg iter cs scope pos
      obtain ⟨h1, h2⟩ := a2 h
      obtain ⟨h2, h3⟩ := a2 h2
      obtain ⟨h3, h4⟩ := a2 h3
      obtain ⟨h4, h5⟩ := a2 h4
      obtain ⟨i1, i2⟩ := si it P ok tg iter h1
      refine pe_lcD ok i1 i2 h2 h3 (fun st Hb C cl fp H F => se e ⟨P.X.blk st Hb scope (compEnvC scope cl C P.X.env) fp, H, F, H, F, false, fun _ _ => False, P.G, P.T, P.gz⟩ (ok_blk ok st Hb C cl fp H F) elt h5) fun st0 Hb C cl fp => ?_
      cases cs with
      | cons _ _ => exact absurd h4 Bool.false_ne_true
      | nil => exact pts_D st0 Hb C cl fp
    · exact absurd h Bool.false_ne_true
  | .lc t it (.cons a .nil) e, P, ok, x, h => by
    unfold mE at h
    split at h
    · rename_i elt tg iter cs scope pos
      obtain ⟨h1, h2⟩ := a2 h
      obtain ⟨h2, h3⟩ := a2 h2
      obtain ⟨h3, h4⟩ := a2 h3
      obtain ⟨h4, h5⟩ := a2 h4
      obtain ⟨i1, i2⟩ := si it P ok tg iter h1
      refine pe_lcD ok i1 i2 h2 h3 (fun st Hb C cl fp H F => se e ⟨P.X.blk st Hb scope (compEnvC scope cl C P.X.env) fp, H, F, H, F, false, fun _ _ => False, P.G, P.T, P.gz⟩ (ok_blk ok st Hb C cl fp H F) elt h5) fun st0 Hb C cl fp => ?_
      match cs, h4 with
      | [], h4 => exact absurd h4 Bool.false_ne_true
      | _ :: _ :: _, h4 => exact absurd h4 Bool.false_ne_true
      | [y], h4 =>
        refine pts_one fun pins s1 σ H Q I ⟨F, s, l, q⟩ => ?_
        exact st a ⟨P.X.blk st0 Hb scope (compEnvC scope cl C P.X.env) fp, H, F, H, F, false, fun _ _ => False, P.G, P.T, P.gz⟩ (ok_blk ok st0 Hb C cl fp H F) y h4 pins s1 σ H Q I ⟨F, s, ⟨l.g, l.len, l.slot, l.apart, l.kp, l.tb⟩, q⟩
    · exact absurd h Bool.false_ne_true
  | .lc t it (.cons a (.cons b l)) e, P, ok, x, h => by
    unfold mE at h
    split at h
    · rename_i elt tg iter cs scope pos
      obtain ⟨h1, h2⟩ := a2 h
      obtain ⟨h2, h3⟩ := a2 h2
      obtain ⟨h3, h4⟩ := a2 h3
      obtain ⟨h4, h5⟩ := a2 h4
      cases cs with
      | nil => exact absurd h4 Bool.false_ne_true
      | cons y r => cases r <;> exact absurd h4 Bool.false_ne_true
    · exact absurd h Bool.false_ne_true
theorem sa : ∀ (l : Es) (P : Px) (ok : POk P) (xs : List Expr), mEs P.gz P.G P.X.N P.X.env.scope l xs = true → PA P.X xs (tDs P (evs P.G l))
  | .nil, P, ok, xs, h => by
    cases xs with
    | nil => exact PA.imp pa_nil fun σ H Q ⟨F, s, l, q⟩ => q [] H F l.self .nil
    | cons _ _ => exact absurd h Bool.false_ne_true
  | .cons a l, P, ok, xs, h => by
    cases xs with
    | nil => exact absurd h Bool.false_ne_true
    | cons x xs =>
      obtain ⟨h1, h2⟩ := a2 h
      obtain ⟨h2, h3⟩ := a2 h2
      refine PA.imp (pa_cons (se a P ok x h2) (sa l P ok xs h3) (star_ok h1 _ _)) fun σ H Q ⟨F, s, lr, q⟩ => ?_
      have q : LQ P s H F (bndI (ev P.G a s) fun x => consL x (evs P.G l s)) Q := q
      refine ⟨F, s, lr, (LQ.bndI q).imp fun v H1 ⟨F1, d, g1, r1, q1⟩ => ⟨F1, s, lr.grow g1, ?_⟩⟩
      cases e : evs P.G l s with
      | ok ds =>
        rw [e] at q1
        exact fun vs H2 F2 g2 r2 => q1 (v :: vs) H2 F2 g2 (.cons (r1.grow g2) r2)
      | exn d => rw [e] at q1; exact q1
      | bad => rw [e] at q1; exact q1
theorem sw : ∀ (e : E) (P : Px) (ok : POk P) (o : PySem.BoolOp) (l : List Expr) (p : Pos), mE P.gz P.G P.X.N P.X.env.scope e (.BoolOp o l p) = true → PW P.X (.BoolOp o l p) (tB (tD P (evc P.G e)))
  | .and a b, P, ok, o, es, p, h => by
    have key : ∀ {l y : Expr} {t : List Expr}, PT P.X l (tB (tD P (evc P.G a))) → PW P.X (.BoolOp .And (y :: t) p) (tB (tD P (evc P.G b))) → PW P.X (.BoolOp .And (l :: y :: t) p) (tB (tD P (evc P.G (.and a b)))) := fun h1 h2 => by
      refine PW.imp (pw_and h1 h2) fun σ H Q q => ?_
      have q : tD P (fun s => bnd (evc P.G a s) fun x => cond x (evc P.G b s) (okB false)) σ H (fun x H1 => ∃ c, x = .bl c ∧ Q c H1) := q
      refine (tD.bnd (f := fun s x => cond x (evc P.G b s) (okB false)) q).imp fun v H' ⟨F', s, d, l, r, q⟩ => ?_
      obtain ⟨c, e, q⟩ := cond_q r q
      refine ⟨c, e, ?_⟩
      cases c with
      | true => rw [if_pos rfl] at q ⊢; exact ⟨F', s, l, q⟩
      | false =>
        rw [if_neg Bool.false_ne_true] at q ⊢
        obtain ⟨c, e, q⟩ := okB_q l.dom q
        cases e
        exact q
    cases o with
    | And =>
      match es, h with
      | [], h => exact absurd h Bool.false_ne_true
      | [_], h => exact absurd h Bool.false_ne_true
      | [l, r], h =>
        obtain ⟨h1, h2⟩ := a2 h
        exact key (st a P ok l h1) (pw_and1 (st b P ok r h2))
      | l :: r :: r' :: t, h =>
        obtain ⟨h1, h2⟩ := a2 h
        exact key (st a P ok l h1) (sw b P ok _ _ _ h2)
    | Or => cases es <;> exact absurd h Bool.false_ne_true
  | .or a b, P, ok, o, es, p, h => by
    have key : ∀ {l y : Expr} {t : List Expr}, PT P.X l (tB (tD P (evc P.G a))) → PW P.X (.BoolOp .Or (y :: t) p) (tB (tD P (evc P.G b))) → PW P.X (.BoolOp .Or (l :: y :: t) p) (tB (tD P (evc P.G (.or a b)))) := fun h1 h2 => by
      refine PW.imp (pw_or h1 h2) fun σ H Q q => ?_
      have q : tD P (fun s => bnd (evc P.G a s) fun x => cond x (okB true) (evc P.G b s)) σ H (fun x H1 => ∃ c, x = .bl c ∧ Q c H1) := q
      refine (tD.bnd (f := fun s x => cond x (okB true) (evc P.G b s)) q).imp fun v H' ⟨F', s, d, l, r, q⟩ => ?_
      obtain ⟨c, e, q⟩ := cond_q r q
      refine ⟨c, e, ?_⟩
      cases c with
      | true =>
        rw [if_pos rfl] at q ⊢
        obtain ⟨c, e, q⟩ := okB_q l.dom q
        cases e
        exact q
      | false => rw [if_neg Bool.false_ne_true] at q ⊢; exact ⟨F', s, l, q⟩
    cases o with
    | Or =>
      match es, h with
      | [], h => exact absurd h Bool.false_ne_true
      | [_], h => exact absurd h Bool.false_ne_true
      | [l, r], h =>
        obtain ⟨h1, h2⟩ := a2 h
        exact key (st a P ok l h1) (pw_or1 (st b P ok r h2))
      | l :: r :: r' :: t, h =>
        obtain ⟨h1, h2⟩ := a2 h
        exact key (st a P ok l h1) (sw b P ok _ _ _ h2)
    | And => cases es <;> exact absurd h Bool.false_ne_true
  | .var _, _, _, _, _, _, h => absurd h Bool.false_ne_true
  | .glob _, _, _, _, _, _, h => absurd h Bool.false_ne_true
  | .cn, _, _, _, _, _, h => absurd h Bool.false_ne_true
  | .cb _, _, _, _, _, _, h => absurd h Bool.false_ne_true
  | .ci _, _, _, _, _, _, h => absurd h Bool.false_ne_true
  | .cs _, _, _, _, _, _, h => absurd h Bool.false_ne_true
  | .bin _ _ _, _, _, _, _, _, h => absurd h Bool.false_ne_true
  | .neg _, _, _, _, _, _, h => absurd h Bool.false_ne_true
  | .not _, _, _, _, _, _, h => absurd h Bool.false_ne_true
  | .cmp _ _ _, _, _, _, _, _, h => absurd h Bool.false_ne_true
  | .chain _ _ _ _ _, _, _, _, _, _, h => absurd h Bool.false_ne_true
  | .ifx _ _ _, _, _, _, _, _, h => absurd h Bool.false_ne_true
  | .tup _, _, _, _, _, _, h => absurd h Bool.false_ne_true
  | .lst _, _, _, _, _, _, h => absurd h Bool.false_ne_true
  | .idx _ _, _, _, _, _, _, h => absurd h Bool.false_ne_true
  | .slc _ _ _, _, _, _, _, _, h => absurd h Bool.false_ne_true
  | .nil, _, _, _, _, _, h => absurd h Bool.false_ne_true
  | .call _ _, _, _, _, _, _, h => absurd h Bool.false_ne_true
  | .blt _ _, _, _, _, _, _, h => absurd h Bool.false_ne_true
  | .isi _ _, _, _, _, _, _, h => absurd h Bool.false_ne_true
  | .mth _ _ _, _, _, _, _, _, h => absurd h Bool.false_ne_true
  | .bitl _, _, _, _, _, _, h => absurd h Bool.false_ne_true
  | .att _ _, _, _, _, _, _, h => absurd h Bool.false_ne_true
  | .new _, _, _, _, _, _, h => absurd h Bool.false_ne_true
  | .lc _ _ _ _, _, _, _, _, _, h => absurd h Bool.false_ne_true
  | .cpy _, _, _, _, _, _, h => absurd h Bool.false_ne_true
  | .anyg _ _ _, _, _, _, _, _, h => absurd h Bool.false_ne_true
  | .sumg _ _ _, _, _, _, _, _, h => absurd h Bool.false_ne_true
  | .cnt _ _, _, _, _, _, _, h => absurd h Bool.false_ne_true
  | .sta _ _, _, _, _, _, _, h => absurd h Bool.false_ne_true
  | .dsel _ _, _, _, _, _, _, h => absurd h Bool.false_ne_true
  | .rvs _, _, _, _, _, _, h => absurd h Bool.false_ne_true
  | .dnw, _, _, _, _, _, h => absurd h Bool.false_ne_true
  | .dix _ _, _, _, _, _, _, h => absurd h Bool.false_ne_true
  | .vls _, _, _, _, _, _, h => absurd h Bool.false_ne_true
  | .callk _ _ _ _, _, _, _, _, _, h => absurd h Bool.false_ne_true
theorem st : ∀ (e : E) (P : Px) (ok : POk P) (x : Expr), mE P.gz P.G P.X.N P.X.env.scope e x = true → PT P.X x (tB (tD P (evc P.G e)))
  | .and a b, P, ok, x, h => by
    cases x with
    | BoolOp o es p => exact (sw (.and a b) P ok o es p h).pt
    | _ => exact absurd h Bool.false_ne_true
  | .or a b, P, ok, x, h => by
    cases x with
    | BoolOp o es p => exact (sw (.or a b) P ok o es p h).pt
    | _ => exact absurd h Bool.false_ne_true
  | .not a, P, ok, x, h => by
    cases x with
    | UnaryOp o l pos =>
      cases o with
      | Not =>
        refine PT.imp (pt_not (st a P ok l h)) fun σ H Q q => ?_
        have q : tD P (fun s => bnd (evc P.G a s) notop) σ H (fun x H1 => ∃ c, x = .bl c ∧ Q c H1) := q
        refine (tD.bnd (f := fun _ => notop) q).imp fun v H' ⟨F', s, d, l, r, q⟩ => ?_
        obtain ⟨c, e, c', e', q⟩ := not_q l.dom r q
        cases e'
        exact ⟨c, e, q⟩
      | _ => exact absurd h Bool.false_ne_true
    | _ => exact absurd h Bool.false_ne_true
  | .cmp op a b, P, ok, x, h => by
    cases x with
    | Compare l os rs pos =>
      match os, rs, h with
      | [o], [r], h =>
        obtain ⟨h1, h2⟩ := a2 h
        obtain ⟨h2, h3⟩ := a2 h2
        obtain ⟨h3, h4⟩ := a2 h3
        have e : op = o := of_decide_eq_true h1
        subst e
        exact PT.imp (pt_cmpR (op_cmp rfl ok.hu' op) (se a P ok l h3) (se b P ok r h4) (by simpa using h2)) fun σ H Q q => (tD.two (P := P) (ta := ev P.G a) (tb := ev P.G b) (g := cmpop op) (Q := fun x H1 => ∃ c, x = .bl c ∧ Q c H1) q).imp fun v H1 z => z.imp fun u H2 w => w.o
      | [], _, h => exact absurd h Bool.false_ne_true
      | [_], [], h => exact absurd h Bool.false_ne_true
      | [_], _ :: _ :: _, h => exact absurd h Bool.false_ne_true
      | _ :: _ :: _, _, h => exact absurd h Bool.false_ne_true
    | _ => exact absurd h Bool.false_ne_true
  | .chain o p a b c, P, ok, x, h => by
    cases x with
    | Compare l os rs pos =>
      match os, rs, h with
      | [o', p'], [r, t], h =>
        obtain ⟨h1, h7⟩ := a2 h
        obtain ⟨h2, h8⟩ := a2 h7
        obtain ⟨h3, h9⟩ := a2 h8
        obtain ⟨h4, h10⟩ := a2 h9
        obtain ⟨h5, h6⟩ := a2 h10
        have e : o = o' := of_decide_eq_true h1
        have e2 : p = p' := of_decide_eq_true h2
        subst e e2
        exact PT.imp (pt_chain (op_cmp rfl ok.hu' o) (op_cmp rfl ok.hu' p) (se a P ok l h4) (se b P ok r h5) (se c P ok t h6) (by simpa using h3)) fun σ H Q q => chain_r (P := P) (ta := ev P.G a) (tb := ev P.G b) (tc := ev P.G c) (Q := fun x H1 => ∃ c, x = .bl c ∧ Q c H1) q
      | [], _, h => exact absurd h Bool.false_ne_true
      | [_], _, h => exact absurd h Bool.false_ne_true
      | [_, _], [], h => exact absurd h Bool.false_ne_true
      | [_, _], [_], h => exact absurd h Bool.false_ne_true
      | [_, _], _ :: _ :: _ :: _, h => exact absurd h Bool.false_ne_true
      | _ :: _ :: _ :: _, _, h => exact absurd h Bool.false_ne_true
    | _ => exact absurd h Bool.false_ne_true
  | .ifx c a b, P, ok, x, h => fun _ _ σ H Q _ ⟨_, _, _, q⟩ => (show False from q).elim
  | .var i, P, ok, x, h => st_plain (se (.var i) P ok x h) (by cases x <;> first | exact absurd h Bool.false_ne_true | (intro _; rfl))
  | .glob i, P, ok, x, h => st_plain (se (.glob i) P ok x h) (by cases x <;> first | exact absurd h Bool.false_ne_true | (intro _; rfl))
  | .cn, P, ok, x, h => st_plain (se .cn P ok x h) (by cases x <;> first | exact absurd h Bool.false_ne_true | (intro _; rfl))
  | .cb i, P, ok, x, h => st_plain (se (.cb i) P ok x h) (by cases x <;> first | exact absurd h Bool.false_ne_true | (intro _; rfl))
  | .ci i, P, ok, x, h => st_plain (se (.ci i) P ok x h) (by cases x <;> first | exact absurd h Bool.false_ne_true | (intro _; rfl))
  | .cs i, P, ok, x, h => st_plain (se (.cs i) P ok x h) (by cases x <;> first | exact absurd h Bool.false_ne_true | (intro _; rfl))
  | .bin o a b, P, ok, x, h => st_plain (se (.bin o a b) P ok x h) (by cases x <;> first | exact absurd h Bool.false_ne_true | (intro _; rfl))
  | .neg a, P, ok, x, h => st_plain (se (.neg a) P ok x h) (by cases x with
    | UnaryOp o l p => cases o <;> first | exact absurd h Bool.false_ne_true | (intro _; rfl)
    | _ => exact absurd h Bool.false_ne_true)
  | .tup l, P, ok, x, h => st_plain (se (.tup l) P ok x h) (by cases x <;> first | exact absurd h Bool.false_ne_true | (intro _; rfl))
  | .lst l, P, ok, x, h => st_plain (se (.lst l) P ok x h) (by cases x <;> first | exact absurd h Bool.false_ne_true | (intro _; rfl))
  | .idx a i, P, ok, x, h => st_plain (se (.idx a i) P ok x h) (by cases x <;> first | exact absurd h Bool.false_ne_true | (intro _; rfl))
  | .slc a lo hi, P, ok, x, h => st_plain (se (.slc a lo hi) P ok x h) (by cases x <;> first | exact absurd h Bool.false_ne_true | (intro _; rfl))
  | .nil, P, ok, x, h => absurd h Bool.false_ne_true
  | .call f l, P, ok, x, h => st_plain (se (.call f l) P ok x h) (by cases x <;> first | exact absurd h Bool.false_ne_true | (intro _; rfl))
  | .blt f l, P, ok, x, h => st_plain (se (.blt f l) P ok x h) (by cases x <;> first | exact absurd h Bool.false_ne_true | (intro _; rfl))
  | .isi a cs, P, ok, x, h => st_plain (se (.isi a cs) P ok x h) (by cases x <;> first | exact absurd h Bool.false_ne_true | (intro _; rfl))
  | .mth a m l, P, ok, x, h => st_plain (se (.mth a m l) P ok x h) (by cases x <;> first | exact absurd h Bool.false_ne_true | (intro _; rfl))
  | .bitl a, P, ok, x, h => st_plain (se (.bitl a) P ok x h) (by cases x <;> first | exact absurd h Bool.false_ne_true | (intro _; rfl))
  | .att a f, P, ok, x, h => absurd h Bool.false_ne_true
  | .new c, P, ok, x, h => st_plain (se (.new c) P ok x h) (by cases x <;> first | exact absurd h Bool.false_ne_true | (intro _; rfl))
  | .callk f l k e, P, ok, x, h => st_plain (se (.callk f l k e) P ok x h) (by cases x <;> first | exact absurd h Bool.false_ne_true | (intro _; rfl))
  | .anyg t it e, P, ok, x, h => st_plain (se (.anyg t it e) P ok x h) (by cases x <;> first | exact absurd h Bool.false_ne_true | (intro _; rfl))
  | .sumg t it e, P, ok, x, h => st_plain (se (.sumg t it e) P ok x h) (by cases x <;> first | exact absurd h Bool.false_ne_true | (intro _; rfl))
  | .dnw, P, ok, x, h => st_plain (se .dnw P ok x h) (by cases x <;> first | exact absurd h Bool.false_ne_true | (intro _; rfl))
  | .dix i k, P, ok, x, h => st_plain (se (.dix i k) P ok x h) (by cases x <;> first | exact absurd h Bool.false_ne_true | (intro _; rfl))
  | .vls a, P, ok, x, h => st_plain (se (.vls a) P ok x h) (by cases x <;> first | exact absurd h Bool.false_ne_true | (intro _; rfl))
  | .rvs a, P, ok, x, h => st_plain (se (.rvs a) P ok x h) (by cases x <;> first | exact absurd h Bool.false_ne_true | (intro _; rfl))
  | .dsel l e, P, ok, x, h => st_plain (se (.dsel l e) P ok x h) (by cases x <;> first | exact absurd h Bool.false_ne_true | (intro _; rfl))
  | .sta a l, P, ok, x, h => st_plain (se (.sta a l) P ok x h) (by cases x <;> first | exact absurd h Bool.false_ne_true | (intro _; rfl))
  | .cnt a b, P, ok, x, h => st_plain (se (.cnt a b) P ok x h) (by cases x <;> first | exact absurd h Bool.false_ne_true | (intro _; rfl))
  | .cpy a, P, ok, x, h => st_plain (se (.cpy a) P ok x h) (by cases x <;> first | exact absurd h Bool.false_ne_true | (intro _; rfl))
  | .lc t it ifs e, P, ok, x, h => st_plain (se (.lc t it ifs e) P ok x h) (by cases x <;> first | exact absurd h Bool.false_ne_true | (intro _; rfl))
theorem si : ∀ (it : It) (P : Px) (ok : POk P) (tg x : Expr), mIt P.gz P.G P.X.N P.X.env.scope tg it x = true → PI P.X tg x (tI P (evi P.G it)) ∧ ∀ v, foldedSetIterable x P.X.env v = pure v
  | .seq a, P, ok, tg, x, h => by
    obtain ⟨h1, h2⟩ := a2 h
    refine ⟨PI.imp (pi_seq (se a P ok x h2)) fun σ H R ⟨F, s, l, q⟩ => ⟨F, s, l, ?_⟩, ?_⟩
    · have q : (match bndI (ev P.G a s) itemsOf with
        | .ok ds => ∀ J H' F', Grow H F H' F' → Gives P J ds H' F' → R J H'
        | .exn d => P.W d s
        | .bad => False) := q
      have fin : ∀ {d : D} {H' : Hp} {F' : Fz} {v : V}, Grow H F H' F' → P.rp H' F' v d → (match itemsOf d with
          | .ok ds => ∀ J H' F', Grow H F H' F' → Gives P J ds H' F' → R J H'
          | .exn d => P.W d s
          | .bad => False) → ∃ a, v = .ref a ∧ (((∃ xs, SqL P.X.K H' a xs) ∧ R (Itl P.X.K a) H') ∨ ((∃ xs, SqT P.X.K H' a xs) ∧ R (Itt P.X.K a) H')) := fun {d H' F' v} g r q => by
        cases r with
        | @tup a xs ds hl hr => exact ⟨a, rfl, .inr ⟨⟨xs, hl.sq⟩, q _ _ _ g (gives_tup hl hr)⟩⟩
        | @lst a xs ds hl hr => exact ⟨a, rfl, .inl ⟨⟨xs, hl.sq⟩, q _ _ _ g (gives_list hl hr)⟩⟩
        | _ => exact (show False from q).elim
      cases e : ev P.G a s with
      | ok d => rw [e] at q; exact fun v H' F' g r => fin g r q
      | own ds =>
        rw [e] at q
        intro p vs H' F' g n f e r
        obtain ⟨g3, q3⟩ := frz_new g n e r
        exact fin g3 q3 q
      | exn d => rw [e] at q; exact q
      | bad => rw [e] at q; exact q
    · intro v
      cases x <;> first | rfl | exact absurd h1 Bool.false_ne_true
  | .rng1 a, P, ok, tg, x, h => by
    cases x with
    | Call fx es ks pos =>
      cases fx with
      | Name f p =>
        match es, ks, h with
        | [y], [], h =>
          obtain ⟨h1, h2⟩ := a2 h
          obtain ⟨h2, h3⟩ := a2 h2
          obtain ⟨h3, h4⟩ := a2 h3
          have e : f = ("range" : Str) := beq_iff_eq.mp h1
          subst e
          refine ⟨PI.imp (pi_range1 (gl_ok h2).1 ok.wd.range (pa_cons (se a P ok y h4) pa_nil (star_ok h3 _ _)) (star_ok h3 _ _)) fun σ H R ⟨F, s, l, q⟩ => ⟨F, s, l, ?_⟩, fun v => rfl⟩
          have q : (match bndI (ev P.G a s) rng1op with
            | .ok ds => ∀ J H' F', Grow H F H' F' → Gives P J ds H' F' → R J H'
            | .exn d => P.W d s
            | .bad => False) := q
          cases e : ev P.G a s with
          | ok d =>
            rw [e] at q
            intro v H' F' g r
            cases r with
            | int i =>
              have q : (match (if rngOk i then RL.ok (rngL 0 i.toNat) else RL.bad) with
                | .ok ds => ∀ J H' F', Grow H F H' F' → Gives P J ds H' F' → R J H'
                | .exn d => P.W d s
                | .bad => False) := q
              by_cases hr : rngOk i = true
              · rw [if_pos hr] at q
                obtain ⟨r1, r2⟩ := rngOk_ok hr
                exact ⟨i, rfl, r1, r2, q _ _ _ g gives_rng⟩
              · rw [if_neg hr] at q; exact q.elim
            | _ => exact (show False from q).elim
          | own ds => rw [e] at q; exact (show False from q).elim
          | exn d => rw [e] at q; exact q
          | bad => rw [e] at q; exact q
        | [], _, h => exact absurd h Bool.false_ne_true
        | _ :: _ :: _, _, h => exact absurd h Bool.false_ne_true
        | [_], _ :: _, h => exact absurd h Bool.false_ne_true
      | _ => exact absurd h Bool.false_ne_true
    | _ => exact absurd h Bool.false_ne_true
  | .rng2 a b, P, ok, tg, x, h => by
    cases x with
    | Call fx es ks pos =>
      cases fx with
      | Name f p =>
        match es, ks, h with
        | [y, z], [], h =>
          obtain ⟨h1, h2⟩ := a2 h
          obtain ⟨h2, h3⟩ := a2 h2
          obtain ⟨h3, h4⟩ := a2 h3
          obtain ⟨h4, h5⟩ := a2 h4
          obtain ⟨h5, h6⟩ := a2 h5
          have e : f = ("range" : Str) := beq_iff_eq.mp h1
          subst e
          refine ⟨PI.imp (pi_range2 (gl_ok h2).1 ok.wd.range (pa_cons (se a P ok y h5) (pa_cons (se b P ok z h6) pa_nil (star_ok h4 _ _)) (star_ok h3 _ _)) (by rw [star_ok h3, star_ok h4]; rfl) (star_ok h4 _ _)) fun σ H R ⟨F, s, l, q⟩ => ⟨F, s, l, ?_⟩, fun v => rfl⟩
          have q : (match bndI (ev P.G a s) fun x => bndI (ev P.G b s) fun y => rng2op x y with
            | .ok ds => ∀ J H' F', Grow H F H' F' → Gives P J ds H' F' → R J H'
            | .exn d => P.W d s
            | .bad => False) := q
          cases e : ev P.G a s with
          | ok d =>
            rw [e] at q
            intro v H1 F1 g1 r1
            refine ⟨F1, s, l.grow g1, ?_⟩
            have q : (match bndI (ev P.G b s) fun y => rng2op d y with
              | .ok ds => ∀ J H' F', Grow H F H' F' → Gives P J ds H' F' → R J H'
              | .exn d => P.W d s
              | .bad => False) := q
            cases e2 : ev P.G b s with
            | ok d2 =>
              rw [e2] at q
              intro v2 H2 F2 g2 r2
              cases r1 with
              | int i =>
                cases r2 with
                | int j =>
                  have q : (match (if rngOk i && rngOk j then RL.ok (rngL i (j - i).toNat) else RL.bad) with
                    | .ok ds => ∀ J H' F', Grow H F H' F' → Gives P J ds H' F' → R J H'
                    | .exn d => P.W d s
                    | .bad => False) := q
                  by_cases hr : (rngOk i && rngOk j) = true
                  · rw [if_pos hr] at q
                    obtain ⟨r1, r2⟩ := a2 hr
                    obtain ⟨r3, r4⟩ := rngOk_ok r1
                    obtain ⟨r5, r6⟩ := rngOk_ok r2
                    exact ⟨i, j, rfl, ⟨r3, r4, r5, r6⟩, q _ _ _ (g1.trans g2) gives_rng⟩
                  · rw [if_neg hr] at q; exact q.elim
                | _ => exact (show False from q).elim
              | _ => cases r2 <;> exact (show False from q).elim
            | own ds => rw [e2] at q; cases r1 <;> exact (show False from q).elim
            | exn d => rw [e2] at q; exact q
            | bad => rw [e2] at q; exact q
          | own ds =>
            rw [e] at q
            have q : (match bndI (ev P.G b s) fun y => rng2op (.lst ds) y with
              | .ok ds => ∀ J H' F', Grow H F H' F' → Gives P J ds H' F' → R J H'
              | .exn d => P.W d s
              | .bad => False) := q
            intro p vs H' F' g n f e3 r
            obtain ⟨g3, q3⟩ := frz_new g n e3 r
            refine ⟨_, s, l.grow g3, ?_⟩
            cases e2 : ev P.G b s with
            | ok d2 => rw [e2] at q; cases d2 <;> exact (show False from q).elim
            | own ds => rw [e2] at q; exact (show False from q).elim
            | exn d => rw [e2] at q; exact q
            | bad => rw [e2] at q; exact q
          | exn d => rw [e] at q; exact q
          | bad => rw [e] at q; exact q
        | [], _, h => exact absurd h Bool.false_ne_true
        | [_], _, h => exact absurd h Bool.false_ne_true
        | _ :: _ :: _ :: _, _, h => exact absurd h Bool.false_ne_true
        | [_, _], _ :: _, h => exact absurd h Bool.false_ne_true
      | _ => exact absurd h Bool.false_ne_true
    | _ => exact absurd h Bool.false_ne_true
  | .rng3 a b c, P, ok, tg, x, h => by
    unfold mIt at h
    split at h
    · rename_i f p x y z pos
      obtain ⟨h1, h2⟩ := a2 h
      obtain ⟨h2, h3⟩ := a2 h2
      obtain ⟨h3, h4⟩ := a2 h3
      obtain ⟨h4, h5⟩ := a2 h4
      obtain ⟨h5, h6⟩ := a2 h5
      obtain ⟨h6, h7⟩ := a2 h6
      obtain ⟨h7, h8⟩ := a2 h7
      have e : f = ("range" : Str) := beq_iff_eq.mp h1
      subst e
      refine ⟨PI.imp (pi_range3 (gl_ok h2).1 ok.wd.range (pa_cons (se a P ok x h6) (pa_cons (se b P ok y h7) (pa_cons (se c P ok z h8) pa_nil (star_ok h5 _ _)) (star_ok h4 _ _)) (star_ok h3 _ _)) (by rw [star_ok h3, star_ok h4, star_ok h5]) (by rw [star_ok h4, star_ok h5]; rfl)) fun σ H R ⟨F, s, l, q⟩ => ⟨F, s, l, ?_⟩, fun v => rfl⟩
      exact rng3_q l q
    · exact absurd h Bool.false_ne_true
  | .enm a, P, ok, tg, x, h => by
    unfold mIt at h
    split at h
    · rename_i f p y pos
      obtain ⟨h1, r2⟩ := a2 h
      obtain ⟨h2, r3⟩ := a2 r2
      obtain ⟨h3, r4⟩ := a2 r3
      obtain ⟨h4, h5⟩ := a2 r4
      clear r2 r3 r4
      have e : f = ("enumerate" : Str) := beq_iff_eq.mp h1
      subst e
      cases tg with
      | Tuple elts kk tpos =>
        refine ⟨PI.imp (pi_enum2 (gl_ok h2).1 ok.wd.enm (pa_cons (se a P ok y h5) pa_nil (star_ok h3 _ _)) (star_ok h3 _ _)) fun σ H R ⟨F, s, l, q⟩ => ⟨F, s, l, ?_⟩, fun v => rfl⟩
        have q : (match bndI (ev P.G a s) enmOf with
          | .ok ds => ∀ J H' F', Grow H F H' F' → Gives P J ds H' F' → R J H'
          | .exn d => P.W d s
          | .bad => False) := q
        have fin : ∀ {d : D} {H' : Hp} {F' : Fz} {v : V}, Grow H F H' F' → P.rp H' F' v d → (match enmOf d with
            | .ok ds => ∀ J H' F', Grow H F H' F' → Gives P J ds H' F' → R J H'
            | .exn d => P.W d s
            | .bad => False) → ∃ (a : Addr) (xs : List V), [v] = [V.ref a] ∧ ((SqL P.X.K H' a xs ∧ R (Ite P.X.K a) H') ∨ (SqT P.X.K H' a xs ∧ R (IteT P.X.K a) H')) := fun {d H' F' v} g r q => by
          cases r with
          | @lst a xs ds hl hr => exact ⟨a, xs, rfl, .inl ⟨hl.sq, q _ _ _ g (gives_enumL hl hr)⟩⟩
          | @tup a xs ds hl hr => exact ⟨a, xs, rfl, .inr ⟨hl.sq, q _ _ _ g (gives_enumT hl hr)⟩⟩
          | _ => exact (show False from q).elim
        cases e : ev P.G a s with
        | ok d => rw [e] at q; exact fun v H' F' g r => fin g r q
        | own ds =>
          rw [e] at q
          intro p vs H' F' g n f e r
          obtain ⟨g3, q3⟩ := frz_new g n e r
          exact fin g3 q3 q
        | exn d => rw [e] at q; exact q
        | bad => rw [e] at q; exact q
      | _ => exact absurd h4 Bool.false_ne_true
    · exact absurd h Bool.false_ne_true
  | .rev a, P, ok, tg, x, h => by
    unfold mIt at h
    split at h
    · rename_i f p y pos
      obtain ⟨h1, h2⟩ := a2 h
      obtain ⟨h2, h3⟩ := a2 h2
      obtain ⟨h3, h4⟩ := a2 h3
      have e : f = ("reversed" : Str) := beq_iff_eq.mp h1
      subst e
      refine ⟨PI.imp (pi_reversed (gl_ok h2).1 ok.wd.rev0 (pa_cons (se a P ok y h4) pa_nil (star_ok h3 _ _)) (star_ok h3 _ _)) fun σ H R ⟨F, s, l, q⟩ => ⟨F, s, l, ?_⟩, fun v => rfl⟩
      have q : (match bndI (ev P.G a s) revOf with
        | .ok ds => ∀ J H' F', Grow H F H' F' → Gives P J ds H' F' → R J H'
        | .exn d => P.W d s
        | .bad => False) := q
      have fin : ∀ {d : D} {H' : Hp} {F' : Fz} {v : V}, Grow H F H' F' → P.rp H' F' v d → (match revOf d with
          | .ok ds => ∀ J H' F', Grow H F H' F' → Gives P J ds H' F' → R J H'
          | .exn d => P.W d s
          | .bad => False) → ∃ (a : Addr) (xs : List V), [v] = [V.ref a] ∧ SqL P.X.K H' a xs ∧ R (Itv P.X.K a xs.length) H' := fun {d H' F' v} g r q => by
        cases r with
        | @lst a xs ds hl hr => exact ⟨a, xs, rfl, hl.sq, q _ _ _ g (gives_rev hl hr)⟩
        | _ => exact (show False from q).elim
      cases e : ev P.G a s with
      | ok d => rw [e] at q; exact fun v H' F' g r => fin g r q
      | own ds =>
        rw [e] at q
        intro p vs H' F' g n f e r
        obtain ⟨g3, q3⟩ := frz_new g n e r
        exact fin g3 q3 q
      | exn d => rw [e] at q; exact q
      | bad => rw [e] at q; exact q
    · exact absurd h Bool.false_ne_true
end
theorem lc_parts (ok : POk P) {t : Tg} {it : It} {ifs : Es} {e : E} {x : Expr} (h : mE P.gz P.G P.X.N P.X.env.scope (.lc t it ifs e) x = true) : ∃ elt tg iter cs scope pos, x = .ListComp elt [⟨tg, iter, cs, 0⟩] scope pos ∧ PI P.X tg iter (tI P (evi P.G it)) ∧ (∀ v, foldedSetIterable iter P.X.env v = pure v) ∧ BlkOk P.X.N P.X.env.scope scope (ownOf P.X.N t) ∧
    (∀ (s : Shared) (H : Hp) (C : Addr) (cl : List (Str × Addr)) (fp : List Addr), PG (P.X.blk s H scope (compEnvC scope cl C P.X.env) fp) tg (gTg P.X.K t)) ∧ (∀ (s : Shared) (H : Hp) (C : Addr) (cl : List (Str × Addr)) (fp : List Addr), PTs (P.X.blk s H scope (compEnvC scope cl C P.X.env) fp) cs (tB' (tIn P (evcs P.G ifs)))) ∧
    (∀ (s : Shared) (H : Hp) (C : Addr) (cl : List (Str × Addr)) (fp : List Addr), PE (P.X.blk s H scope (compEnvC scope cl C P.X.env) fp) elt (tIn P (ev P.G e))) ∧ (ownOf P.X.N t).map (·.2) = t.ix := by
  unfold mE at h
  split at h
  · rename_i elt tg iter cs scope pos
    obtain ⟨h1, h2⟩ := a2 h
    obtain ⟨h2, h3⟩ := a2 h2
    obtain ⟨h3, h4⟩ := a2 h3
    obtain ⟨h4, h5⟩ := a2 h4
    obtain ⟨i1, i2⟩ := si it P ok tg iter h1
    refine ⟨elt, tg, iter, cs, scope, pos, rfl, i1, i2, blkOk_by h2, fun st Hb C cl fp => pg_to (ok_blk ok st Hb C cl fp Hb (fun _ => False)) h3, fun st0 Hb C cl fp => ?_, fun st Hb C cl fp pins s1 σ H Q I ⟨F, s, l, q⟩ =>
      se e ⟨P.X.blk st Hb scope (compEnvC scope cl C P.X.env) fp, H, F, H, F, false, fun _ _ => False, P.G, P.T, P.gz⟩ (ok_blk ok st Hb C cl fp H F) elt h5 pins s1 σ H Q I ⟨F, s, ⟨l.g, l.len, l.slot, l.apart, l.kp, l.tb⟩, q⟩, ?_⟩
    · match ifs, cs, h4 with
      | .nil, [], _ => exact pts_D st0 Hb C cl fp
      | .nil, _ :: _, h4 => exact absurd h4 Bool.false_ne_true
      | .cons a .nil, [], h4 => exact absurd h4 Bool.false_ne_true
      | .cons a .nil, _ :: _ :: _, h4 => exact absurd h4 Bool.false_ne_true
      | .cons a .nil, [y], h4 =>
        refine pts_one fun pins s1 σ H Q I ⟨F, s, l, q⟩ => ?_
        exact st a ⟨P.X.blk st0 Hb scope (compEnvC scope cl C P.X.env) fp, H, F, H, F, false, fun _ _ => False, P.G, P.T, P.gz⟩ (ok_blk ok st0 Hb C cl fp H F) y h4 pins s1 σ H Q I ⟨F, s, ⟨l.g, l.len, l.slot, l.apart, l.kp, l.tb⟩, q⟩
      | .cons a (.cons b l), [], h4 => exact absurd h4 Bool.false_ne_true
      | .cons a (.cons b l), [_], h4 => exact absurd h4 Bool.false_ne_true
      | .cons a (.cons b l), _ :: _ :: _, h4 => exact absurd h4 Bool.false_ne_true
    · unfold ownOf
      rw [List.map_map]
      exact List.map_id _
  · exact absurd h Bool.false_ne_true
end
end Nf
set_option linter.all false
set_option maxRecDepth 100000
set_option autoImplicit false
set_option maxHeartbeats 4000000
namespace Nf
open PySem L2 PySem.Spec PyProof.Rows
def augOk : Operator → Bool
  | .Pow => false
  | _ => true
def noComp : Expr → Bool
  | .ListComp _ _ _ _ => false
  | .SetComp _ _ _ _ => false
  | .DictComp _ _ _ _ _ => false
  | _ => true
def noTup : Expr → Bool
  | .Tuple _ _ _ => false
  | _ => true
def swC (y : Str) (py : Pos) : Expr → Bool
  | .ListComp _ _ scope pos => (py.line == pos.line) && !(scope.names.any fun (n, k) => n == y && (k == .local || k == .cell))
  | _ => false
def parC (sc : Scope) (x : Str) (px : Pos) (y : Str) (py : Pos) (a b : Expr) : Bool := (sc.names.lookup x == some .local) && ((sc.names.lookup y == some .local) && ((py.line == px.line) && (!(x == y) && (noStar a && (noStar b && (!([a, b].all (foldedForSure 8)) && !([a, b].all (constantsAlone 8))))))))
mutual
def mS (gf : Bool) (G : Gm) (N : List Str) (sc : Scope) (z : Bool) : S → Stmt → Bool
  | .set i e, x => match x with
    | .Assign [.Name y _] v _ => locn N sc i y && (noComp v && mE gf G N sc e v)
    | _ => false
  | .setv i e, x => match x with
    | .Assign [.Name y _] v _ => locn N sc i y && (noComp v && mE gf G N sc e v)
    | _ => false
  | .unp l e, x => match x with
    | .Assign [.Tuple es _ _] v _ => locs N sc l es && (noTup v && mE gf G N sc e v)
    | _ => false
  | .par i j a b, x => match x with
    | .Assign [.Tuple [.Name y py, .Name w pw] _ _] (.Tuple [v, u] _ _) _ => (N[i]? == some y) && ((N[j]? == some w) && (!(i == j) && (parC sc y py w pw v u && (mE gf G N sc a v && mE gf G N sc b u))))
    | _ => false
  | .aug i op e, x => match x with
    | .AugAssign (.Name y _) o v _ => (augOk op && decide (op = o)) && (locn N sc i y && mE gf G N sc e v)
    | _ => false
  | .expr e, x => match x with
    | .Expr v _ => noComp v && mE gf G N sc e v
    | _ => false
  | .app i e, x => match x with
    | .Expr (.Call (.Attribute (.Name y _) m ap) [v] [] cp) _ => (m == ("append" : Str)) && (vis N sc i y && ((ap.endLine == cp.line) && (noStar v && mE gf G N sc e v)))
    | _ => false
  | .iff c a b, x => match x with
    | .If t l r _ => mE gf G N sc c t && (mSs gf G N sc z a l && mSs gf G N sc z b r)
    | _ => false
  | .whl c b, x => match x with
    | .While t l [] _ => mE gf G N sc c t && mSs gf G N sc z b l
    | _ => false
  | .for t it b, x => match x with
    | .For tg iter l [] _ => mTg N sc t tg && (mIt gf G N sc tg it iter && mSs gf G N sc z b l)
    | _ => false
  | .ret e, x => match x with
    | .Return (some v) _ => mE gf G N sc e v
    | _ => false
  | .retN, x => match x with
    | .Return none _ => true
    | _ => false
  | .raise c l, x => match x with
    | .Raise (some (.Call (.Name y _) es [] _)) none _ => (c == y) && (gl sc y && (z && (G.exc c && mEs gf G N sc l es)))
    | _ => false
  | .try b c i j, x => match x with
    | .Try l [.ExceptHandler (some (.Name y _)) (some n) [.Assign [.Name w _] (.Name u _) _] _] [] [] _ => (c == y) && (gl sc y && (locn N sc i n && ((sc.names.lookup n == some .local) && (vis N sc i u && (locn N sc j w && (!(i == j) && mSs gf G N sc false b l))))))
    | _ => false
  | .pass, x => match x with
    | .Pass _ => true
    | _ => false
  | .brk, x => match x with
    | .Break _ => true
    | _ => false
  | .cont, x => match x with
    | .Continue _ => true
    | _ => false
  | .doc, x => match x with
    | .Expr (.Constant (.str _) _ _) _ => true
    | _ => false
  | .frz l st, x => mS gf G N sc z st x
  | .setl i t it ifs e, x => match x with
    | .Assign [.Name y py] v _ => (N[i]? == some y) && ((sc.names.lookup y == some .local) && (swC y py v && mE gf G N sc (.lc t it ifs e) v))
    | _ => false
  | .setc i t it ifs e, x => match x with
    | .Assign [.Name y py] v _ => (N[i]? == some y) && ((sc.names.lookup y == some .local) && (swC y py v && mE gf G N sc (.lc t it ifs e) v))
    | _ => false
  | .newd i, x => match x with
    | .Assign [.Name y _] (.Dict [] [] _) _ => locn N sc i y
    | _ => false
  | .dput i k e, x => match x with
    | .Assign [.Subscript (.Name y _) r _] v _ => vis N sc i y && (noSlice r && (noComp v && (mE gf G N sc k r && mE gf G N sc e v)))
    | _ => false
  | .put i j e, x => match x with
    | .Assign [.Subscript (.Name y _) r _] v _ => vis N sc i y && (noSlice r && (noComp v && (noTup v && (mE gf G N sc j r && mE gf G N sc e v))))
    | _ => false
def mSs (gf : Bool) (G : Gm) (N : List Str) (sc : Scope) (z : Bool) : Ss → List Stmt → Bool
  | .nil, x => match x with
    | [] => true
    | _ => false
  | .cons a l, x => match x with
    | y :: ys => mS gf G N sc z a y && mSs gf G N sc z l ys
    | _ => false
end
theorem swapped_ok {env : Env} {x y : Str} {px py pt pt2 : Pos} {kt k2 : Nat} {a b : Expr} (hk : env.scope.kind = .function) (h : parC env.scope x px y py a b = true) : swappedStores [.Tuple [.Name x px, .Name y py] kt pt] (.Tuple [a, b] k2 pt2) env = pure (some [x, y]) := by
  unfold parC at h
  simp only [Bool.and_eq_true, beq_iff_eq, Bool.not_eq_true', beq_eq_false_iff_ne] at h
  obtain ⟨h1, h2, h3, h4, h5, h6, h7, h8⟩ := h
  have n1 : env.kindOf x = some .local := h1
  have n2 : env.kindOf y = some .local := h2
  have st : ([a, b].any fun | .Starred .. => true | _ => false) = false := by
    cases a <;> first | exact absurd h5 Bool.false_ne_true | (cases b <;> first | rfl | exact absurd h6 Bool.false_ne_true)
  have bk : env.blockKind = .function := by unfold Env.blockKind; rw [hk]; rfl
  have er : [x, y].eraseDups.length = 2 := by
    have : (y == x) = false := by simpa using fun z => h4 z.symm
    simp [List.eraseDups_cons, this]
  unfold swappedStores
  simp only [st, h7, h8]
  simp [n1, n2, h3, bk, Expr.pos, er]
  intro z
  exfalso
  rcases z with z | z
  · cases a <;> first | exact absurd h5 Bool.false_ne_true | cases z
  · cases b <;> first | exact absurd h6 Bool.false_ne_true | cases z
theorem swaps_ok {v : Expr} (h : noComp v = true) (t : Option Expr) (l : Nat) (env : Env) : swapsWith v t l env = pure false := by
  cases v <;> first | rfl | exact absurd h Bool.false_ne_true
theorem swaps_tup (v : Expr) (es : List Expr) (k : Nat) (p : Pos) (l : Nat) (env : Env) : swapsWith v (some (.Tuple es k p)) l env = pure false := by
  cases v <;> rfl
theorem stores_ok {v : Expr} (h : noTup v = true) (t : List Expr) (env : Env) : swappedStores t v env = pure none := by
  unfold swappedStores
  cases v <;> first
    | exact absurd h Bool.false_ne_true
    | rfl
    | (cases t with
       | nil => rfl
       | cons a r =>
         cases r with
         | nil => cases a <;> rfl
         | cons _ _ => cases a <;> rfl)
section
variable {P : Px}
structure POkS (P : Px) : Prop where
  ok : POk P
  fn : ∀ x, P.X.fn x = true
  hp : PassesOwn (model P.X.prog P.X.w) P.X.A P.X.env P.X.xe
  stk : P.X.stack = P.X.env :: P.X.outer ∧ P.X.env.frame = some P.X.env.locals
  rs : P.rz = true → ∀ (pins : List (Addr × Obj)) (σ : L2.St) (H : Hp) (F : Fz) (s : En) (st : Shared) (h' : Heap) (a C : Addr) (vs : List Value) (d : D), Inv P.X pins σ H st → Rl P H F σ s → Heap.MadeExcOf st.heap h' a (.ref C) vs → XRp P.X.mg d C → P.W d s → P.X.xe (.ref a) { st with heap := h' }
theorem pgs_names (ok : POkS P) : ∀ {l : List Nat} {es : List Expr}, locs P.X.N P.X.env.scope l es = true → PGs P.X es (gL l) ∧ (assignEach es P.X.env).length = l.length ∧ (assignEach es P.X.env).findIdx? (·.1) = none
  | [], [], _ => ⟨pgs_nil, rfl, rfl⟩
  | [], _ :: _, h => absurd h Bool.false_ne_true
  | _ :: _, [], h => absurd h Bool.false_ne_true
  | i :: r, e :: es, h => by
    cases e with
    | Name x pos =>
      obtain ⟨h1, h2⟩ := a2 h
      obtain ⟨h3, h4⟩ := locn_ok h1
      obtain ⟨i1, i2, i3⟩ := pgs_names ok h2
      refine ⟨pgs_cons (pg_name ok.ok.nd h3 h4 (.inl (ok.fn x))) i1, ?_, ?_⟩
      · show (assignEach es P.X.env).length + 1 = r.length + 1
        rw [i2]
      · show ((false, assign (.Name x pos) P.X.env) :: assignEach es P.X.env).findIdx? (·.1) = none
        rw [List.findIdx?_cons, i3]
        rfl
    | _ => exact absurd h Bool.false_ne_true
theorem pg_tg (ok : POkS P) {t : Tg} {e : Expr} (h : mTg P.X.N P.X.env.scope t e = true) : PG P.X e (gTg P.X.K t) := by
  cases t with
  | name i =>
    cases e with
    | Name x pos =>
      obtain ⟨h3, h4⟩ := locn_ok h
      exact pg_name ok.ok.nd h3 h4 (.inl (ok.fn x))
    | _ => exact absurd h Bool.false_ne_true
  | tup l =>
    cases e with
    | Tuple es k pos =>
      obtain ⟨i1, i2, i3⟩ := pgs_names ok h
      exact pg_tup ok.ok.calm i1 i2 i3
    | _ => exact absurd h Bool.false_ne_true
def gSq (K : PySem.W.Frag) (n : Nat) (t : TGs) : TG := fun v σ H Q => ∃ a xs, v = .ref a ∧ (SqT K H a xs ∨ SqL K H a xs) ∧ xs.length = n ∧ t xs σ H Q
theorem pg_sq {X : Cx} {pos : Pos} {es : List Expr} {k : Nat} {t : TGs} {n : Nat} (hc : X.calm = true) (h : PGs X es t)
    (hn : (assignEach es X.env).length = n) (hst : (assignEach es X.env).findIdx? (·.1) = none) : PG X (.Tuple es k pos) (gSq X.K n t) := by
  intro pins s σ H v u Q I r hw
  obtain ⟨a, xs, e1, hq, hl, hw⟩ := hw
  rcases hq with hq | hq
  · exact pg_tup hc h hn hst pins s σ H v u Q I r ⟨a, xs, e1, hq, hl, hw⟩
  · subst e1
    cases r
    obtain ⟨its, rv, ht, hz⟩ := I.list hq
    rw [assign_Tuple]
    refine wpAny_bind (wpAny_standAt ?_)
    unfold unpack
    have hs : its.toArray.size = n := by simp [← hl, rv.length]
    rw [hn, hst, ← hs]
    refine wpAny_bind (wpAny_holding (PySem.W.kun_itemsOf (I.ok.hd hc) ht.isList fun h' hx => ?_))
    have I1 : Inv X pins σ H { s with heap := h' } := I.kept (t' := s.toks) fun b o e => hx b o (Nat.ne_of_lt (Heap.lt_size e)) e
    exact h pins _ σ H xs _ Q I1 (by simpa using rv) hw
theorem pg_sqD (ok : POkS P) {is : List Nat} {es : List Expr} {k : Nat} {pos : Pos} (h : mTg P.X.N P.X.env.scope (.tup is) (.Tuple es k pos) = true) : PG P.X (.Tuple es k pos) (gSq P.X.K is.length (gL is)) := by
  obtain ⟨i1, i2, i3⟩ := pgs_names ok h
  exact pg_sq ok.ok.calm i1 i2 i3
theorem turns {t : Tg} {b : Ss} {Ed : Ends} {ds : List D} {σ : L2.St} {H : Hp} {F : Fz} {s : En} {J : L2.It} (l : Rl P H F σ s) (q : SQ P H F Ed (forL t (exs P.G b) ds s))
    (hg : ∀ (i : Nat) (d : D) (H' : Hp) (F' : Fz), Keep H F H' F' → (∀ a, F' a → ∃ o, H' a = some o) → ds[i]? = some d → J.go i H' ∧ ∀ x H2, J.yld i H' x H2 → ∃ F2, Grow H' F' H2 F2 ∧ P.rp H2 F2 x d)
    (hs : ∀ (H' : Hp) (F' : Fz), Keep H F H' F' → J.stop ds.length H') :
    ∃ W : Nat → Nat → L2.St → Hp → Prop, (∃ m, W 0 m σ H) ∧ ∀ i m σ H, W i m σ H → (J.stop i H ∧ Ed.nx σ H) ∨ (J.go i H ∧ ∃ N : L2.St → Hp → Prop, (∀ σ' H', N σ' H' → ∃ m', m' < m ∧ W (i + 1) m' σ' H') ∧
      ∀ x H', J.yld i H x H' → (gTg P.X.K t) x σ H' fun σ2 H2 => tS P (exs P.G b) { Ed with nx := N, ct := N, bk := Ed.nx } σ2 H2) := by
  refine ⟨fun i m σ1 H1 => m = ds.length - i ∧ i ≤ ds.length ∧ ∃ F1 s1, Keep H F H1 F1 ∧ Rl P H1 F1 σ1 s1 ∧ SQ P H1 F1 Ed (forL t (exs P.G b) (ds.drop i) s1), ⟨ds.length, by simp, Nat.zero_le _, F, s, Keep.refl _ _, l, q⟩, ?_⟩
  rintro i m σ1 H1 ⟨rfl, hi, F1, s1, k1, l1, q1⟩
  by_cases hlt : i < ds.length
  · have hd : ds.drop i = ds[i] :: ds.drop (i + 1) := List.drop_eq_getElem_cons hlt
    have hx : ds[i]? = some ds[i] := List.getElem?_eq_getElem hlt
    obtain ⟨go, y⟩ := hg i _ H1 F1 k1 l1.dom hx
    rw [hd] at q1
    have q1 : SQ P H1 F1 Ed (optn (putT t ds[i] s1) fun s2 => lpn (exs P.G b s2) (forL t (exs P.G b) (ds.drop (i + 1)))) := q1
    cases e : putT t ds[i] s1 with
    | none => rw [e] at q1; exact (show False from q1).elim
    | some s2 =>
      rw [e] at q1
      have q1 : SQ P H1 F1 Ed (lpn (exs P.G b s2) (forL t (exs P.G b) (ds.drop (i + 1)))) := q1
      refine .inr ⟨go, fun σ' H' => ∃ F' s', Keep H F H' F' ∧ Rl P H' F' σ' s' ∧ SQ P H' F' Ed (forL t (exs P.G b) (ds.drop (i + 1)) s'), fun σ' H' ⟨F', s', k, l', q'⟩ => ⟨ds.length - (i + 1), by omega, rfl, hlt, F', s', k, l', q'⟩, fun x H2 yx => ?_⟩
      obtain ⟨F2, gy, r⟩ := y x H2 yx
      replace k1 := k1.trans gy.keep
      replace q1 := SQ.keep gy.keep q1
      refine put_tg (l1.grow gy) r e fun σ2 l2 => ⟨F2, s2, l2, ?_⟩
      cases eb : exs P.G b s2 with
      | nx s3 => rw [eb] at q1; exact fun σ' H' F' k l' => ⟨F', s3, k1.trans k, l', SQ.keep k q1⟩
      | ct s3 => rw [eb] at q1; exact fun σ' H' F' k l' => ⟨F', s3, k1.trans k, l', SQ.keep k q1⟩
      | bk s3 => rw [eb] at q1; exact q1
      | rt d => rw [eb] at q1; exact q1
      | rto l => rw [eb] at q1; exact q1
      | ex d s3 => rw [eb] at q1; exact q1
      | bad => rw [eb] at q1; exact q1
  · have e : i = ds.length := by omega
    subst e
    rw [List.drop_length] at q1
    exact .inl ⟨hs H1 F1 k1, q1 σ1 H1 F1 (Keep.refl _ _) l1⟩
end
end Nf
set_option linter.all false
set_option maxRecDepth 100000
set_option autoImplicit false
set_option maxHeartbeats 4000000
namespace Nf
open PySem L2 PySem.Spec PyProof.Rows
theorem objok_there {P : Program} {w : World} {H : Hp} {h : Heap} {a : Addr} {o : HO} (x : ObjOk P w H h a o) : ∃ u, h.get? a = some u := by
  cases o with
  | lst xs => obtain ⟨_, _, _, _, e⟩ := x; exact ⟨_, e⟩
  | tup xs => obtain ⟨_, _, _, o, e, _⟩ := x; exact ⟨o, e⟩
  | dK kvs => obtain ⟨_, _, _, _, o, _, _, e, _⟩ := x; exact ⟨_, e⟩
  | dT kvs => obtain ⟨_, _, _, _, o, _, _, e, _⟩ := x; exact ⟨_, e⟩
  | set S n => obtain ⟨o, _, _, _, e, _⟩ := x; exact ⟨_, e⟩
  | ins C dx fs => obtain ⟨_, _, _, e, _⟩ := x; exact ⟨_, e⟩
  | own y => obtain ⟨_, e⟩ := x; exact ⟨_, e⟩
  | xd fs => obtain ⟨_, ⟨_, _, _, e, _⟩, _⟩ := x; exact ⟨_, e⟩
  | rng lo hi => obtain ⟨_, _, _, e⟩ := x; exact ⟨_, e⟩
  | frz ob u => obtain ⟨e, _⟩ := x; exact ⟨_, e⟩
  | tbl ps => exact ⟨_, (show h.get? a = some _ from x)⟩
  | met f y => exact ⟨_, (show h.get? a = some _ from x)⟩
  | ext φ => obtain ⟨_, e, _⟩ := x; exact e
section
variable {Pr : Program} {w : World} {l : List Env} {H H' : Hp} {s s' : Shared} {a C : Addr}
theorem XAt.keeps {B : Heap} {a0 : Value} {h' : Heap} (x : XAt Pr w l H s H' a C s') (fr : ∀ b ∈ frs l, H b = none ∧ ∃ o, s.heap.get? b = some o) (f1 : Heap.FlyingW B l a (.ref C) a0 s'.heap) (hB : ∀ b, b ∉ frs l → (s.heap.get? b ≠ none ∨ H' b ≠ none) → B.get? b ≠ none)
    (f2 : B.StaysIn h') (u : s'.heap.UpToSlots h') : Un (frs l) [] H H' s.heap h' ∧ HOk Pr w H' h' := by
  have stay : ∀ b o, b ∉ frs l → (s.heap.get? b ≠ none ∨ H' b ≠ none) → s'.heap.get? b = some o → h'.get? b = some o := fun b o n1 n2 e => by
    cases q : B.get? b with
    | none => exact absurd q (hB b n1 n2)
    | some o1 =>
      have := f1.1 b o1 q
      rw [e] at this
      cases this
      exact f2 b _ q
  have frame : ∀ b o, b ∈ frs l → s'.heap.get? b = some o → ∃ sl, h'.get? b = some { o with slots := sl } := fun b o hb e => by
    obtain ⟨_, o1, e1, nf⟩ := f1.2.2.1.mem hb
    rw [e] at e1
    cases e1
    exact u b o e nf
  have nx : ∀ {b : Addr}, b ∉ ([] : List Addr) := fun z => nomatch z
  refine ⟨⟨fun b o e n hb _ => stay b o hb (.inl (by rw [e]; simp)) (x.un.keep b o e n hb nx), fun b o e n hb _ => ?_, fun b o e n _ => x.un.free b o e n nx, fun b o e _ => ?_, x.un.tups, x.un.frzs, x.un.tbls⟩, fun b o e => ?_⟩
  · obtain ⟨sl, e1⟩ := x.un.slot b o e n hb nx
    obtain ⟨sl', e2⟩ := frame b _ hb e1
    exact ⟨sl', e2⟩
  · obtain ⟨o', e1⟩ := x.un.there b o e nx
    by_cases hb : b ∈ frs l
    · obtain ⟨sl', e2⟩ := frame b _ hb e1
      exact ⟨_, e2⟩
    · exact ⟨o', stay b o' hb (.inl (by rw [e]; simp)) e1⟩
  · have nf : ∀ c o, H' c = some o → c ∉ frs l := fun c o hc hm => by
      obtain ⟨n, o1, e1⟩ := fr c hm
      have := x.un.free c o1 e1 n nx
      rw [hc] at this; cases this
    refine (x.hok b o e).stay (fun c v hc q => ?_) (fun _ q => q) fun _ _ q => q
    rcases hc with rfl | hc
    · exact stay c v (nf c _ e) (.inr (by rw [e]; simp)) q
    · exact stay c v (nf c _ hc) (.inr (by rw [hc]; simp)) q
end
theorem exc_obj {K : PySem.W.Frag} {h : Heap} {C : Addr} {bmB : List Value} {newId : String} (X : K.In h) (q : PySem.W.excIn K C bmB newId = true) :
    ∃ bm N nm q bs hdct sn sub ab col dd k0 k1 k2 k3 k5 mN, h.get? C = some (excClassObj nm q C N bs bm hdct sn sub ab col dd k0 k1 k2 k3 k5 newId) ∧ h.Ns N mN ∧ mN "__init__" = none ∧ OwnTail h bmB bm := by
  unfold PySem.W.excIn at q
  split at q
  · rename_i dd cd sl ho
    split at q
    · rename_i C' bm k0 k1 k2 k3 n k5 hm hs
      simp only [Bool.and_eq_true, beq_iff_eq, Bool.not_eq_true'] at q
      obtain ⟨⟨⟨⟨⟨rfl, rfl⟩, hdel⟩, ht⟩, hok⟩, hni⟩ := q
      obtain ⟨nm, bs, mro, ns, qn, hd, sn, sub, ab, col, del⟩ := cd
      dsimp only at hm hdel hok hni
      subst hm hdel
      have hsl : sl = #[k0, k1, k2, k3, some (.builtin n), k5] := by
        obtain ⟨l⟩ := sl
        simp only at hs
        rw [hs]
      subst hsl
      exact ⟨bm, ns, nm, qn, bs, hd, sn, sub, ab, col, dd, k0, k1, k2, k3, k5, _, X _ _ ho, .of_isNs (PySem.W.isNs_of_in X hok), PySem.W.nsMap_none_of_in X hok hni, PySem.W.tail_of_in X ht⟩
    · cases q
  · cases q
section
variable {P : Px}
theorem ps_raise (ok : POkS P) (hz : P.rz = true) {c : Str} {l : Es} {es : List Expr} {np cp pos : Pos} (ha : PA P.X es (tDs P (evs P.G l))) (hg : gl P.X.env.scope c = true) (hc : P.G.exc c = true) (hm : mEs P.gz P.G P.X.N P.X.env.scope l es = true) :
    PS P.X (.Raise (some (.Call (.Name c np) es [] cp)) none pos) (tS P fun s => sbi s (evs P.G l s) fun ds => exop c ds s) := by
  obtain ⟨g1, g2⟩ := gl_ok hg
  obtain ⟨C, mC, hx⟩ := ok.ok.wd.exc c hc
  intro pins st σ H Ed I ⟨F, s, lr, q⟩
  obtain ⟨bm, N, nm, qn, bs, hdct, sn, sub, ab, col, dd, k0, k1, k2, k3, k5, mN, hC, hN, hni, TL⟩ := exc_obj I.mod.kin hx
  have fin : ∀ (st2 : Shared) (σ2 : L2.St) (H2 : Hp) (F2 : Fz) (vs : List Value) (ds : List D), Inv P.X pins σ2 H2 st2 → Rl P H2 F2 σ2 s → vs.length ≤ sizeLine → P.W (.exc c ds) s →
      ((⟨vs, []⟩ : Args).kw = [] ∧ (⟨vs, []⟩ : Args).pos.length ≤ sizeLine ∧ st2.heap.get? C = some (excClassObj nm qn C N bs bm hdct sn sub ab col dd k0 k1 k2 k3 k5 "ValueError.__new__") ∧ st2.heap.Ns N mN ∧ OwnTail st2.heap [.type "ValueError", .type "Exception", .type "BaseException", .type "object"] bm ∧
        ∀ h' e, Heap.MadeExcOf st2.heap h' e (.ref C) vs → P.X.xe (.ref e) { st2 with heap := h' }) := fun st2 σ2 H2 F2 vs ds I2 l2 hz2 w =>
    ⟨rfl, hz2, I2.bk _ _ hC, hN.keeps I2.bk, TL.keeps I2.bk, fun h' e hx => ok.rs hz pins σ2 H2 F2 s st2 h' e C vs _ I2 l2 hx ⟨c, ds, rfl, mC⟩ w⟩
  have q : SQ P H F Ed (sbi s (evs P.G l s) fun ds => exop c ds s) := q
  have hpl : (backTo cp (starEach es P.X.env)).any (·.1) = false := mEs_star hm
  refine wpAny_Raise_call_subT (C := C) (nm := nm) (q := qn) (N := N) (bs := bs) (bm := bm) (hdct := hdct) (sn := sn) (sub := sub) (ab := ab) (col := col) (dd := dd) (k0 := k0) (k1 := k1) (k2 := k2) (k3 := k3) (k5 := k5)
    PySem.F.excBase_ValueError (mN := mN) (TL.hasType (by decide +kernel)) (I.ok.hd ok.ok.calm) hpl hni (ld_glob I g1 mC ⟨rfl, ?_⟩ g2)
  cases es with
  | nil =>
    cases l with
    | cons _ _ => exact absurd hm Bool.false_ne_true
    | nil => exact evalArgs_empty (fin st σ H F [] [] I lr (Nat.zero_le _) q)
  | cons x xs =>
    cases l with
    | nil => exact absurd hm Bool.false_ne_true
    | cons a' l' =>
      have h1 := (a2 hm).1
      have key := ha cp pins st σ H (fun vs H' => ∃ F' ds, Rl P H' F' σ s ∧ P.rps H' F' vs ds ∧ P.W (.exc c ds) s ∧ vs.length ≤ sizeLine) I ⟨F, s, lr, ?_⟩
      · rw [star_ok h1] at key ⊢
        refine Calls.evalArgs_plain (wpAny_mono key (fun us s2 ⟨vs, H2, I2, r2, F2, ds, l2, _, w, hz2⟩ => ?_) fun _ _ y => y)
        exact fin s2 σ H2 F2 us ds I2 l2 (by rw [← r2.length]; exact hz2) w
      · cases e : evs P.G (.cons a' l') s with
        | ok ds =>
          rw [e] at q
          have q : SQ P H F Ed (if ds.length ≤ sizeLine then .ex (.exc c ds) s else .bad) := q
          by_cases hz2 : ds.length ≤ sizeLine
          · rw [if_pos hz2] at q
            exact fun vs H' F' g r => ⟨F', ds, lr.grow g, r, q, by rw [r.length]; exact hz2⟩
          · rw [if_neg hz2] at q; exact (show False from q).elim
        | exn d => rw [e] at q; exact q
        | bad => rw [e] at q; exact q
end
end Nf
set_option linter.all false
set_option maxRecDepth 100000
set_option autoImplicit false
set_option maxHeartbeats 4000000
namespace Nf
open PySem L2 PySem.Spec PyProof.Rows
theorem inv_forget {X : Cx} {pins : List (Addr × Obj)} {σ : L2.St} {H : Hp} {s : Shared} {i : Nat} {n : Str} {m : Str → Option Value} {u : Option Value} {h' : Heap} (I : Inv X pins σ H s) (hN : X.N.Nodup) (hi : X.N[i]? = some n) (hk : X.env.scope.names.lookup n = some .local)
    (hm : s.heap.Ns X.env.locals m) (hl : ∀ (i : Nat) (x : Str) (v : V), X.N[i]? = some x → σ[i]? = some (some v) → Vis X.env.scope x → ∃ u, RelV v u ∧ Look X.env s.heap m x u) (hn' : h'.Ns X.env.locals (fun x => if x = n then u else m x)) (hs : Heap.SameBut X.env.locals s.heap h') : Inv X pins (σ.set i none) H { s with heap := h' } := by
  have tracked : HOk X.prog X.w H h' := fun b ob e => by
    refine (I.hok b ob e).stay (fun c w' hc q => (hs.2 c ?_).trans q) (fun _ q => q) fun _ _ q => q
    rintro rfl
    rcases hc with rfl | hc
    · rw [I.free] at e; cases e
    · rw [I.free] at hc; cases hc
  have hiσ : i < σ.length := by rw [I.len]; exact (List.getElem?_eq_some_iff.mp hi).1
  refine ⟨I.ok, I.os, I.bare.trans (.same rfl rfl), ⟨fun b o e n hb hx => ?_, fun b o e n hb hx => ?_, I.base.free, fun b o e hx => ?_, I.base.tups, I.base.frzs, I.base.tbls⟩, ⟨_, hn', fun j y v' e1 e2 e3 => ?_⟩, fun y c e => ?_, I.free, I.freeC, fun p hp => ?_, tracked, by simpa using I.len⟩
  · exact (hs.2 b (Nat.ne_of_lt (Nat.lt_of_lt_of_le (Heap.lt_size e) I.ok.above))).trans (I.base.keep b o e n hb hx)
  · obtain ⟨sl, e1⟩ := I.base.slot b o e n hb hx
    exact ⟨sl, (hs.2 b (Nat.ne_of_lt (Nat.lt_of_lt_of_le (Heap.lt_size e) I.ok.above))).trans e1⟩
  · obtain ⟨o', e1⟩ := I.base.there b o e hx
    exact ⟨o', (hs.2 b (Nat.ne_of_lt (Nat.lt_of_lt_of_le (Heap.lt_size e) I.ok.above))).trans e1⟩
  · by_cases hj : j = i
    · subst hj
      rw [List.getElem?_set_self hiσ] at e2
      cases e2
    · rw [List.getElem?_set_ne (Ne.symm hj)] at e2
      obtain ⟨u', r', q⟩ := hl j y v' e1 e2 e3
      refine ⟨u', r', ?_⟩
      rcases q with ⟨k, e⟩ | ⟨k, c, e, z⟩
      · refine .inl ⟨k, ?_⟩
        have : y ≠ n := fun e => hj (nodup_ix hN e1 (e ▸ hi))
        simp [this, e]
      · exact .inr ⟨k, c, e, z.sameBut hs (I.cne y c e)⟩
  · obtain ⟨w', z⟩ := I.cell y c e
    exact ⟨w', z.sameBut hs (I.cne y c e)⟩
  · obtain ⟨e, n, ne, nf, d⟩ := I.pin p hp
    exact ⟨(hs.2 p.1 ne).trans e, n, ne, nf, d⟩
section
variable {P : Px}
theorem Rl.forget {H : Hp} {F : Fz} {σ : L2.St} {s : En} {i : Nat} {o : Option V} (l : Rl P H F σ s) : Rl P H F (σ.set i o) (s.set i .no) := by
  have ne : ∀ (j : Nat) (x : Sl), (s.set i .no)[j]? = some x → x.mine = true → j ≠ i ∧ s[j]? = some x := fun j m e hx => by
    by_cases hj : j = i
    · subst hj
      by_cases hl : j < s.length
      · rw [List.getElem?_set_self hl] at e; cases e; cases hx
      · rw [List.getElem?_eq_none_iff.mpr (by rw [List.length_set]; omega)] at e; cases e
    · rw [List.getElem?_set_ne (Ne.symm hj)] at e; exact ⟨hj, e⟩
  refine ⟨l.g, by rw [List.length_set, List.length_set]; exact l.len, fun j x e => ?_, fun j k p m m' e1 e2 y1 y2 e3 e4 => ?_, l.kp, l.tb⟩
  · by_cases hj : j = i
    · subst hj
      have hl : j < s.length := by
        have := (List.getElem?_eq_some_iff.mp e).1
        rw [List.length_set] at this; exact this
      rw [List.getElem?_set_self hl] at e
      cases e
      exact ⟨o, List.getElem?_set_self (by rw [l.len]; exact hl), trivial⟩
    · rw [List.getElem?_set_ne (Ne.symm hj)] at e ⊢
      exact l.slot j x e
  · obtain ⟨n1, e1⟩ := ne j m e1 y1
    obtain ⟨n2, e2⟩ := ne k m' e2 y2
    rw [List.getElem?_set_ne (Ne.symm n1)] at e3
    rw [List.getElem?_set_ne (Ne.symm n2)] at e4
    exact l.apart j k p m m' e1 e2 y1 y2 e3 e4
abbrev reX (X : Cx) (A : Around) (calm : Bool) (pn : List (Addr × Obj)) (xe : Value → Shared → Prop) : Cx := { X with A := A, calm := calm, pn := pn, xe := xe }
theorem ok_re {X : Cx} (ok : X.Ok) {A : Around} {calm : Bool} {pn : List (Addr × Obj)} {xe : Value → Shared → Prop} (hf : A.frames = some X.stack) (hh : calm = true → A.handled = none) : (reX X A calm pn xe).Ok :=
  ⟨ok.mod, ok.kind, ok.glob, ok.blt, ok.above, ok.inj, ok.has, ok.cab, hh, hf, ok.stk, ok.exf, ok.bs, ok.bsz, ok.noex, ok.exfs, ok.funs, ok.frf⟩
theorem inv_re {X : Cx} {pins pn' pins' : List (Addr × Obj)} {σ : L2.St} {H : Hp} {s : Shared} {A : Around} {calm : Bool} {xe : Value → Shared → Prop} (I : Inv X pins σ H s) (hf : A.frames = some X.stack) (hh : calm = true → A.handled = none)
    (hp : ∀ p ∈ pn' ++ pins', p ∈ X.pn ++ pins) : Inv (reX X A calm pn' xe) pins' σ H s :=
  ⟨ok_re I.ok hf hh, I.os, I.bare, I.base, I.loc, I.cell, I.free, I.freeC, fun p h => I.pin p (hp p h), I.hok, I.len⟩
theorem inv_back {X : Cx} {pins pn' pins' : List (Addr × Obj)} {σ : L2.St} {H : Hp} {s : Shared} {A : Around} {calm : Bool} {xe : Value → Shared → Prop} (ok : X.Ok) (I : Inv (reX X A calm pn' xe) pins' σ H s) (hp : ∀ p ∈ X.pn ++ pins, p ∈ pn' ++ pins') : Inv X pins σ H s :=
  ⟨ok, I.os, I.bare, I.base, I.loc, I.cell, I.free, I.freeC, fun p h => I.pin p (hp p h), I.hok, I.len⟩
theorem frames_mark {A : Around} {o : Option Value} : (A.mark o).frames = A.frames := rfl
theorem stk_fr {X : Cx} {pins : List (Addr × Obj)} {σ : L2.St} {H : Hp} {s : Shared} (I : Inv X pins σ H s) : ∀ b ∈ frs X.stack, H b = none ∧ ∃ o, s.heap.get? b = some o := fun b hb => by
  refine ⟨I.stkFree b hb, ?_⟩
  obtain ⟨_, o, e, _⟩ := I.stack.mem hb
  exact ⟨o, e⟩
theorem caught_inv {X : Cx} {pins : List (Addr × Obj)} {σ : L2.St} {H H' : Hp} {s s' : Shared} {a C : Addr} {B : Heap} {a0 : Value} {h' : Heap} (I : Inv X pins σ H s) (x : XAt X.prog X.w X.stack H s H' a C s') (f1 : Heap.FlyingW B X.stack a (.ref C) a0 s'.heap)
    (hB : ∀ b, b ∉ frs X.stack → (s.heap.get? b ≠ none ∨ H' b ≠ none) → B.get? b ≠ none) (f2 : Heap.FlyingW B X.stack a (.ref C) a0 h') (u : s'.heap.UpToSlots h') :
    Inv X pins σ H' { s' with heap := h' } ∧ Inv X pins σ (upd H' a (excO a C)) { s' with heap := h' } := by
  obtain ⟨u1, k1⟩ := x.keeps (stk_fr I) f1 hB f2.1 u
  have na : s.heap.get? a = none := x.new
  have nx : ∀ {b : Addr}, b ∉ ([] : List Addr) := fun z => nomatch z
  have neA : ∀ b o, s.heap.get? b = some o → b ≠ a := fun b o e z => by rw [z, na] at e; cases e
  have neT : ∀ b o, H' b = some o → b ≠ a := fun b o e z => by rw [z, x.free] at e; cases e
  refine ⟨I.call' (ch := []) x.os u1 k1 (x.bare.trans (.same rfl rfl)) (fun b z => absurd z nx), I.call' (ch := []) x.os ⟨u1.keep, u1.slot, fun b o e n hx => ?_, u1.there, fun b xs e => ?_, fun b o v e => ?_, fun b ps e => ?_⟩ (fun b o e => ?_) (x.bare.trans (.same rfl rfl)) (fun b z => absurd z nx)⟩
  · rw [upd_ne (neA b o e)]; exact u1.free b o e n hx
  · have := u1.tups b xs e
    rw [upd_ne (neT b _ this)]; exact this
  · have := u1.frzs b o v e
    rw [upd_ne (neT b _ this)]; exact this
  · obtain ⟨m1, e1⟩ := u1.tbls b ps e
    exact ⟨m1, by rw [upd_ne (neT b _ e1)]; exact e1⟩
  · by_cases hb : b = a
    · subst hb
      rw [upd_same] at e
      cases e
      obtain ⟨oe, vs, he, hc, hd, _⟩ := f2.first
      have ex : ExcAt b C h' := ⟨oe, vs, he, hc, hd⟩
      exact ⟨ex, ⟨oe, he⟩, fun h1 h2 ⟨o1, v1, e1, e2, e3⟩ k => ⟨o1, v1, k o1 e1, e2, e3⟩⟩
    · rw [upd_ne hb] at e
      refine (k1 b o e).stay (fun c v hc q => q) (fun c q => ?_) fun c xs q => ?_
      · rw [upd_ne (neT c _ q)]; exact q
      · rw [upd_ne (neT c _ q)]; exact q
end
end Nf
set_option linter.all false
set_option maxRecDepth 100000
set_option autoImplicit false
set_option maxHeartbeats 4000000
namespace Nf
open PySem L2 PySem.Spec PyProof.Rows
section
variable {P : Px}
theorem ps_try (ok : POkS P) {b : Ss} {c n z u : Str} {i j : Nat} {l : List Stmt} {cp zp up ap hp pos : Pos} (hg : gl P.X.env.scope c = true) (hi : locn P.X.N P.X.env.scope i n = true) (hk : P.X.env.scope.names.lookup n = some .local) (hu : vis P.X.N P.X.env.scope i u = true)
    (hj : locn P.X.N P.X.env.scope j z = true) (hij : i ≠ j)
    (body : ∀ P' : Px, POkS P' → P'.X.N = P.X.N → P'.X.env = P.X.env → P'.G = P.G → P'.rz = false → P'.gz = P.gz → PSs P'.X l (tS P' (exs P.G b))) :
    PS P.X (.Try l [.ExceptHandler (some (.Name c cp)) (some n) [.Assign [.Name z zp] (.Name u up) ap] hp] [] [] pos) (tS P (exe P.G (.try b c i j))) := by
  obtain ⟨g1, g2⟩ := gl_ok hg
  obtain ⟨i1, i2⟩ := locn_ok hi
  obtain ⟨j1, j2⟩ := locn_ok hj
  obtain ⟨v1, v2, v3, v4⟩ := vis_ok hu
  intro pins st σ H Ed I ⟨F, s, lr, q⟩
  have q : SQ P H F Ed (tryn P.G c i j (exs P.G b s)) := q
  have hst := ok.stk.1
  have hfr : P.X.A.frames = some (P.X.env :: P.X.outer) := by rw [← hst]; exact I.ok.frames
  let hs : List ExceptHandler := [.ExceptHandler (some (.Name c cp)) (some n) [.Assign [.Name z zp] (.Name u up) ap] hp]
  let XE' : Value → Shared → Prop := fun e s1 => wpAny (model P.X.prog P.X.w) P.X.A (noteFrame e P.X.env) (fun _ s2 => wpAny (model P.X.prog P.X.w) P.X.A (setFlight e none) (fun _ s3 => wpAny (model P.X.prog P.X.w) P.X.A (handleBy e P.X.env hs) (SP P.X pins Ed) P.X.xe s3) P.X.xe s2) P.X.xe s1
  let X' : Cx := reX P.X P.X.A P.X.calm (P.X.pn ++ pins) XE'
  let P' : Px := { P with X := X', W := fun d s1 => SQ P H F Ed (tryn P.G c i j (.ex d s1)), Hs := H, Fs := F, rz := false }
  have toP : ∀ {H1 : Hp} {F1 : Fz} {σ1 : L2.St} {s1 : En}, Rl P' H1 F1 σ1 s1 → Rl P H1 F1 σ1 s1 := fun l => ⟨l.g, l.len, l.slot, l.apart, lr.kp.trans l.kp, l.tb⟩
  have pass : XPass P' := by
    intro pins' σ1 H1 F1 s1 st1 e s' d I1 l1 w ⟨a, C, H', ea, x, a', C', F', eC, ea', g, c0, l0, ed, mc⟩
    subst ea
    cases eC
    cases ea'
    subst ed
    have w : SQ P H F Ed (match P.G.isi c0 c with | some true => .nx (((s1.set i (.val (.exc c0 l0))).set j (.val (.exc c0 l0))).set i .no) | _ => .bad) := w
    cases e : P.G.isi c0 c with
    | none => rw [e] at w; exact (show False from w).elim
    | some k =>
      rw [e] at w
      cases k with
      | false => exact (show False from w).elim
      | true =>
        have w : SQ P H F Ed (.nx (((s1.set i (.val (.exc c0 l0))).set j (.val (.exc c0 l0))).set i .no)) := w
        obtain ⟨B, a0, f1, hB⟩ := x.fly
        have f1' : Heap.FlyingW B (P.X.env :: P.X.outer) a (.ref C) a0 s'.heap := by rw [← hst]; exact f1
        have hn0 : ¬ c0 ∈ tyNames := fun z => by have : P.X.mg c0 = none := ok.ok.wd.tyF c0 z; have mc : P.X.mg c0 = some (.ref C) := mc; rw [mc] at this; cases this
        obtain ⟨tv, cv, ht, hcv, _⟩ := ok.ok.wd.isi c0 c true e
        have hx := ok.ok.wd.exm c0 c e hn0 (.ref C) cv mc hcv
        refine wpAny_looks_onW hfr ok.stk.2 f1' fun h4 held4 u4 => ?_
        refine wpAny_landsW held4 fun h5 f5 u5 => ?_
        have u45 := u4.trans u5
        have f5' : Heap.FlyingW B P.X.stack a (.ref C) a0 h5 := by rw [hst]; exact f5
        have I5 := (caught_inv I1 x f1 hB f5' u45).1
        refine wpAny_handleBy_cons (codeAny_handlers_test ?_) (by intro z; cases z)
        have nameC : ∀ {Q : Value → Shared → Prop} {E : Value → Shared → Prop}, Q cv { s' with heap := h5 } → wpAny (model P.X.prog P.X.w) (P.X.A.mark (some (.ref a))) (eval (.Name c cp) P.X.env) Q E { s' with heap := h5 } := fun {Q E} hq => by
          have I5' : Inv (reX P.X (P.X.A.mark (some (.ref a))) false (P.X.pn ++ pins) E) pins' σ1 H' { s' with heap := h5 } := ⟨ok_re I.ok (by rw [frames_mark]; exact I.ok.frames) (fun z => by cases z), I5.os, I5.bare, I5.base, I5.loc, I5.cell, I5.free, I5.freeC, I5.pin, I5.hok, I5.len⟩
          rcases hcv with ⟨c1, c2, c3, _⟩ | ⟨c1, _⟩
          · exact ld_blt (X := reX P.X (P.X.A.mark (some (.ref a))) false (P.X.pn ++ pins) E) I5' g1 c1 c2 hq c3 g2
          · exact ld_glob (X := reX P.X (P.X.A.mark (some (.ref a))) false (P.X.pn ++ pins) E) I5' g1 c1 hq g2
        refine nameC ?_
        obtain ⟨oe, vs0, he5, hc5, _, _⟩ := f5'.first
        have LT : PySem.W.Looks (model P.X.prog P.X.w) h5 (typeOf (.ref a)) (.ref C) := hc5 ▸ (PySem.W.Looks.ld he5).andThen .now
        refine (PySem.W.exm_one (K := P.X.K) (show P.X.K.In h5 from I5.kIn) LT hx).here (s := { s' with heap := h5 }) ?_
        refine codeAny_handlers_suite_as ?_
        refine lands_againW f5 fun h6 f6 u6 => ?_
        have f6' : Heap.FlyingW B P.X.stack a (.ref C) a0 h6 := by rw [hst]; exact f6
        have I6 := (caught_inv I1 x f1 hB f6' (u45.trans u6)).2
        let E3 : Value → Shared → Prop := fun _ _ => False
        have I6' : Inv (reX P.X (P.X.A.mark (some (.ref a))) false (P.X.pn ++ pins) E3) pins' σ1 (upd H' a (excO a C)) { s' with heap := h6 } := ⟨ok_re I.ok (by rw [frames_mark]; exact I.ok.frames) (fun z => by cases z), I6.os, I6.bare, I6.base, I6.loc, I6.cell, I6.free, I6.freeC, I6.pin, I6.hok, I6.len⟩
        refine store_ok (X := reX P.X (P.X.A.mark (some (.ref a))) false (P.X.pn ++ pins) E3) (v := .ref a) I6' ok.ok.nd i1 i2 rfl (fun s7 I7 => ?_) (.inl (ok.fn n))
        have hlen1 : i < σ1.length := by rw [I1.len]; exact (List.getElem?_eq_some_iff.mp i1).1
        have suite : PSs (reX P.X (P.X.A.mark (some (.ref a))) false (P.X.pn ++ pins) E3) [.Assign [.Name z zp] (.Name u up) ap] (tAsg (tVar i) (gName j)) := pss_one (ps_set (X := reX P.X (P.X.A.mark (some (.ref a))) false (P.X.pn ++ pins) E3) ok.ok.nd j1 j2 (pe_var v1 v2 v3 v4) rfl (.inl (ok.fn z)))
        refine wpAny_mono (suite pins' s7 (σ1.set i (some (.ref a))) (upd H' a (excO a C)) { nx := fun σ8 H8 => σ8 = (σ1.set i (some (.ref a))).set j (some (.ref a)) ∧ H8 = upd H' a (excO a C), rt := fun _ _ => False } I7 ⟨.ref a, List.getElem?_set_self hlen1, rfl, rfl⟩) (fun f s8 h8 => ?_) fun _ _ z => z.elim
        cases f with
        | brk => obtain ⟨_, _, _, z⟩ := h8; exact z.elim
        | cont => obtain ⟨_, _, _, z⟩ := h8; exact z.elim
        | ret v => obtain ⟨_, _, _, _, _, z⟩ := h8; exact z.elim
        | next =>
          obtain ⟨σ8, H8, I8, rfl, rfl⟩ := h8
          have I8' : Inv P.X pins ((σ1.set i (some (.ref a))).set j (some (.ref a))) (upd H' a (excO a C)) s8 := ⟨I.ok, I8.os, I8.bare, I8.base, I8.loc, I8.cell, I8.free, I8.freeC, fun p hp => I8.pin p (List.mem_append_left _ hp), I8.hok, I8.len⟩
          show wpAny (model P.X.prog P.X.w) P.X.A (do bindName P.X.env n .none; unbindBehindTheSuite P.X.env n hp) (fun _ s₃ => SP P.X pins Ed .next s₃) P.X.xe s8
          refine wpAny_bind ?_
          unfold bindName
          refine wpAny_bind (wpAny_holding (wpAny_point (wpAny_bind (store_ok (v := .non) I8' ok.ok.nd i1 i2 rfl (fun s9 I9 => wpAny_point ?_) (.inl (ok.fn n))))))
          obtain ⟨m9, hn9, hl9⟩ := id I9.loc
          have hlen2 : i < ((σ1.set i (some (.ref a))).set j (some (.ref a))).length := by rw [List.length_set, List.length_set]; exact hlen1
          obtain ⟨u9, _, lk9⟩ := hl9 i n .non i1 (List.getElem?_set_self hlen2) (.inl hk)
          have hv9 : m9 n = some u9 := by
            rcases lk9 with ⟨_, z⟩ | ⟨z, _⟩
            · exact z
            · rcases z with z | z <;> (have z : P.X.env.scope.names.lookup n = _ := z; rw [hk] at z; cases z)
          unfold unbindBehindTheSuite
          refine wpAny_onRaise (PySem.wpAny_unbindName_local hk hn9 hv9 (by rw [I.ok.kind]; rfl) fun h' u' hn' hsb => ?_)
          have gn := grow_new (o := excO a C) (l1.grow g).dom x.free
          have l3 := toP ((l1.grow g).grow gn)
          have k3 := ((l1.grow g).grow gn).kp
          have rp : P.rp (upd H' a (excO a C)) (fun b => F' b ∨ b = a) (.ref a) (.exc c0 l0) := .exc (.inr rfl) mc upd_same
          have l4 := (Rl.forget (i := i) (o := none) (Rl.forget (i := i) (o := some .non) ((l3.set (i := i) rp).set (i := j) rp)))
          refine ⟨_, _, inv_forget I9 ok.ok.nd i1 hk hn9 hl9 hn' hsb, w _ _ _ k3 ?_⟩
          have e9 : ((((s1.set i (Sl.val (D.exc c0 l0))).set j (Sl.val (D.exc c0 l0))).set i .no).set i .no) = (((s1.set i (Sl.val (D.exc c0 l0))).set j (Sl.val (D.exc c0 l0))).set i .no) := by rw [List.set_set]
          rw [e9] at l4
          exact l4
  have ok' : POkS P' := ⟨⟨ok.ok.nd, ok.ok.calm, ok.ok.hu, ok.ok.wd, ok.ok.fn, ok.ok.mth, pass, ok.ok.gen, ok.ok.bi, ok.ok.dp⟩, ok.fn, PassesOwn.looking, ok.stk, fun z => by cases z⟩
  have I' : Inv X' [] σ H st := inv_re I I.ok.frames I.ok.hd (fun p hp => by rw [List.append_nil] at hp; exact hp)
  refine wpAny_Try_except (wpAny_mono (body P' ok' rfl rfl rfl rfl rfl [] st σ H Ed I' ⟨F, s, ⟨lr.g, lr.len, lr.slot, lr.apart, Keep.refl _ _, lr.tb⟩, ?_⟩) (fun f s1 h => ?_) fun e s1 h => h)
  · cases e : exs P.G b s with
    | nx s2 => rw [e] at q; exact fun σ' H' F' k l => q σ' H' F' k (toP l)
    | bk s2 => rw [e] at q; exact fun σ' H' F' k l => q σ' H' F' k (toP l)
    | ct s2 => rw [e] at q; exact fun σ' H' F' k l => q σ' H' F' k (toP l)
    | rt d => rw [e] at q; exact q
    | rto d => rw [e] at q; exact q
    | ex d s2 => rw [e] at q; exact q
    | bad => rw [e] at q; exact q
  · have back : ∀ {σ' : L2.St} {H' : Hp}, Inv X' [] σ' H' s1 → Inv P.X pins σ' H' s1 := fun I2 => inv_back (pins := pins) I.ok I2 (fun p hp => by rw [List.append_nil]; exact hp)
    cases f with
    | next => obtain ⟨σ', H', I2, z⟩ := h; exact wpAny_execs_nil ⟨σ', H', back I2, z⟩
    | brk => obtain ⟨σ', H', I2, z⟩ := h; exact ⟨σ', H', back I2, z⟩
    | cont => obtain ⟨σ', H', I2, z⟩ := h; exact ⟨σ', H', back I2, z⟩
    | ret v => obtain ⟨v', σ', H', I2, r, z⟩ := h; exact ⟨v', σ', H', back I2, r, z⟩
end
end Nf
set_option linter.all false
set_option maxRecDepth 100000
set_option autoImplicit false
set_option maxHeartbeats 4000000
namespace Nf
open PySem L2 PySem.Spec PyProof.Rows
section
variable {P : Px}
theorem iop_fdivG {X : Cx} : OpR X (inplaceOp .FloorDiv) (rI (fun _ j => divOk j = true) fun i j => .int (i / j)) := opI fun i j _ _ _ _ _ hc q => by
  have hc' : divOk j = true := hc
  unfold divOk at hc'
  obtain ⟨h1, h2⟩ := Bool.and_eq_true_iff.mp hc'
  have h1 := of_decide_eq_true h1
  have h2 := of_decide_eq_true h2
  exact ifloordiv_int (by omega) (by rw [Int.fdiv_eq_ediv_of_nonneg i (by omega)]; exact q) (.inl (PyProof.noPylong_of_log2 h2))
theorem iop_mulG {X : Cx} : OpR X (inplaceOp .Mult) (rI (fun i j => mulOk i j = true) fun i j => .int (i * j)) := opI fun _ _ _ _ _ _ _ hc q => imul_int q (mulOk_ok hc)
theorem iop_shlG {X : Cx} : OpR X (inplaceOp .LShift) (rI (fun i j => shlOk i j = true) fun i j => .int (i * 2 ^ j.toNat)) := opI fun i j _ _ _ _ _ hc q => by
  have hc' : shlOk i j = true := hc
  unfold shlOk at hc'
  obtain ⟨h1, h2⟩ := Bool.and_eq_true_iff.mp hc'
  exact ilshift_int (of_decide_eq_true h1) (of_decide_eq_true h2) q
theorem iop_bin {X : Cx} (hX : X = P.X) (op : Operator) (hop : augOk op = true) : OpR X (inplaceOp op) (rO P (augop op)) := by
  subst hX
  intro pins st σ H x y v u Q I rx ry h
  obtain ⟨F, s, a, b, dm, ra, rb, q⟩ := h
  cases ra with
  | int i =>
    cases rb with
    | int j =>
      have q : RQ P s H F (binI op i j) Q := q
      cases op with
      | Add => exact iop_add pins st σ H _ _ v u Q I rx ry ⟨i, j, rfl, rfl, okI_q dm q⟩
      | Sub => exact iop_sub pins st σ H _ _ v u Q I rx ry ⟨i, j, rfl, rfl, okI_q dm q⟩
      | Mult =>
        have q : RQ P s H F (if mulOk i j then okI (i * j) else .bad) Q := q
        by_cases hc : mulOk i j = true
        · rw [if_pos hc] at q; exact iop_mulG pins st σ H _ _ v u Q I rx ry ⟨i, j, rfl, rfl, hc, okI_q dm q⟩
        · rw [if_neg hc] at q; exact q.elim
      | FloorDiv =>
        have q : RQ P s H F (if divOk j then okI (i / j) else .bad) Q := q
        by_cases hc : divOk j = true
        · rw [if_pos hc] at q; exact iop_fdivG pins st σ H _ _ v u Q I rx ry ⟨i, j, rfl, rfl, hc, okI_q dm q⟩
        · rw [if_neg hc] at q; exact q.elim
      | Mod =>
        have q : RQ P s H F (if 0 < j then okI (i % j) else .bad) Q := q
        by_cases hc : 0 < j
        · rw [if_pos hc] at q; exact iop_mod pins st σ H _ _ v u Q I rx ry ⟨i, j, rfl, rfl, hc, okI_q dm q⟩
        · rw [if_neg hc] at q; exact q.elim
      | Pow => exact absurd hop Bool.false_ne_true
      | LShift =>
        have q : RQ P s H F (if shlOk i j then okI (i * 2 ^ j.toNat) else .bad) Q := q
        by_cases hc : shlOk i j = true
        · rw [if_pos hc] at q; exact iop_shlG pins st σ H _ _ v u Q I rx ry ⟨i, j, rfl, rfl, hc, okI_q dm q⟩
        · rw [if_neg hc] at q; exact q.elim
      | RShift =>
        have q : RQ P s H F (if 0 ≤ j then okI (i / 2 ^ j.toNat) else .bad) Q := q
        by_cases hc : 0 ≤ j
        · rw [if_pos hc] at q; exact iop_shr pins st σ H _ _ v u Q I rx ry ⟨i, j, rfl, rfl, hc, okI_q dm q⟩
        · rw [if_neg hc] at q; exact q.elim
      | BitAnd => exact iop_and pins st σ H _ _ v u Q I rx ry ⟨i, j, rfl, rfl, okI_q dm q⟩
      | BitOr => exact iop_or pins st σ H _ _ v u Q I rx ry ⟨i, j, rfl, rfl, okI_q dm q⟩
      | BitXor => exact iop_xor pins st σ H _ _ v u Q I rx ry ⟨i, j, rfl, rfl, okI_q dm q⟩
      | _ => exact (show False from q).elim
    | _ => exact (show False from q).elim
  | str i =>
    cases rb with
    | str j =>
      cases op with
      | Add =>
        have q : RQ P s H F (if i.length + j.length ≤ sizeLine then .ok (.str (i ++ j)) else .bad) Q := q
        by_cases hc : i.length + j.length ≤ sizeLine
        · rw [if_pos hc] at q; exact iop_add_str pins st σ H _ _ v u Q I rx ry ⟨i, j, rfl, rfl, hc, RQ.ok0 dm q (.str _)⟩
        · rw [if_neg hc] at q; exact q.elim
      | _ => exact (show False from q).elim
    | _ => exact (show False from q).elim
  | _ => exact (show False from q).elim
theorem zK_len : ∀ {ks : List Str} {vs : List V}, ks.length = vs.length → (zK ks vs).length = vs.length
  | [], [], _ => rfl
  | _ :: ks, v :: vs, h => by show (zK ks vs).length + 1 = vs.length + 1; rw [zK_len (by simpa using h)]
  | [], _ :: _, h => by cases h
  | _ :: _, [], h => by cases h
theorem zK_any (w : Str) : ∀ {ks : List Str} {vs : List V}, ks.length = vs.length → ((zK ks vs).any fun kv => decide (kv.1 = (.inr w : Key))) = dpH ks w
  | [], [], _ => rfl
  | k :: ks, v :: vs, h => by
    show (decide ((.inr k : Key) = .inr w) || (zK ks vs).any fun kv => decide (kv.1 = (.inr w : Key))) = (decide (k = w) || dpH ks w)
    rw [zK_any w (by simpa using h)]
    congr 1
    by_cases hk : k = w
    · subst hk; simp
    · rw [decide_eq_false hk, decide_eq_false (fun z => hk (by injection z))]
  | [], _ :: _, h => by cases h
  | _ :: _, [], h => by cases h
theorem zK_map (w : Str) (v : V) : ∀ {ks : List Str} {vs : List V}, ks.length = vs.length → (zK ks vs).map (fun kv => if kv.1 = (.inr w : Key) then (kv.1, v) else kv) = zK ks (dpA ks vs w v) ∧ (dpA ks vs w v).length = ks.length
  | [], [], _ => ⟨rfl, rfl⟩
  | k :: ks, u :: vs, h => by
    obtain ⟨i1, i2⟩ := zK_map w v (ks := ks) (vs := vs) (by simpa using h)
    refine ⟨?_, by show (dpA ks vs w v).length + 1 = ks.length + 1; rw [i2]⟩
    show (if (.inr k : Key) = .inr w then ((.inr k : Key), v) else (.inr k, u)) :: (zK ks vs).map (fun kv => if kv.1 = (.inr w : Key) then (kv.1, v) else kv) = (.inr k, if k = w then v else u) :: zK ks (dpA ks vs w v)
    rw [i1]
    congr 1
    by_cases hk : k = w
    · subst hk; simp
    · rw [if_neg hk, if_neg (fun z => hk (by injection z))]
  | [], _ :: _, h => by cases h
  | _ :: _, [], h => by cases h
theorem zK_app (w : Str) (v : V) : ∀ {ks : List Str} {vs : List V}, ks.length = vs.length → zK ks vs ++ [((.inr w : Key), v)] = zK (ks ++ [w]) (vs ++ [v])
  | [], [], _ => rfl
  | k :: ks, u :: vs, h => by show (.inr k, u) :: (zK ks vs ++ [((.inr w : Key), v)]) = (.inr k, u) :: zK (ks ++ [w]) (vs ++ [v]); rw [zK_app w v (by simpa using h)]
  | [], _ :: _, h => by cases h
  | _ :: _, [], h => by cases h
theorem rps_dpA {K : PySem.W.Frag} {mg : Str → Option Value} {H : Hp} {F : Fz} {v : V} {x : D} (w : Str) (rx : Rp K mg H F v x) : ∀ {ks : List Str} {vs : List V} {ds : List D}, Rps K mg H F vs ds → Rps K mg H F (dpA ks vs w v) (dpA ks ds w x)
  | [], _, _, _ => by cases ‹Rps K mg H F _ _› <;> exact .nil
  | _ :: _, _, _, .nil => .nil
  | k :: ks, _, _, .cons a b => by
    refine .cons ?_ (rps_dpA w rx b)
    by_cases hk : k = w
    · rw [if_pos hk, if_pos hk]; exact rx
    · rw [if_neg hk, if_neg hk]; exact a
theorem put_zK {K : PySem.W.Frag} {mg : Str → Option Value} {H : Hp} {F : Fz} {ks : List Str} {vs : List V} {ds : List D} {w : Str} {v : V} {x : D} (hl : ks.length = vs.length) (r : Rps K mg H F vs ds) (rx : Rp K mg H F v x) :
    ∃ vs', putK (zK ks vs) (.inr w) v = zK (dpK ks ds w x).1 vs' ∧ (dpK ks ds w x).1.length = vs'.length ∧ Rps K mg H F vs' (dpK ks ds w x).2 := by
  unfold putK dpK
  rw [zK_any w hl]
  by_cases hh : dpH ks w = true
  · rw [if_pos hh, if_pos hh]
    obtain ⟨i1, i2⟩ := zK_map w v hl
    exact ⟨_, i1, i2.symm, rps_dpA w rx r⟩
  · rw [if_neg hh, if_neg hh]
    exact ⟨_, zK_app w v hl, by simp [hl], r.append (.cons rx .nil)⟩
theorem lpc_q {s : En} {H : Hp} {F : Fz} {Ed : Ends} {r : R} {a b : SR} (h : SQ P H F Ed (lpc s r a b)) : RQ P s H F r fun v H' => ∃ F', Grow H F H' F' ∧ ∃ c, v = .bl c ∧ if c = true then SQ P H' F' Ed a else SQ P H' F' Ed b := by
  cases r with
  | ok d =>
    intro v H' F' g r
    refine ⟨F', g, ?_⟩
    cases r with
    | bl c =>
      refine ⟨c, rfl, ?_⟩
      cases c with
      | true => exact iteT (SQ.keep g.keep h)
      | false => exact iteF (SQ.keep g.keep h)
    | _ => exact (show False from h).elim
  | own l => exact (show False from h).elim
  | exn d => exact h
  | bad => exact (show False from h).elim
theorem rt_of {s : En} {H : Hp} {F : Fz} {Ed : Ends} {r : R} {σ : L2.St} (l : Rl P H F σ s) (h : SQ P H F Ed (rtn s r)) : RQ P s H F r Ed.rt := by
  cases r with
  | ok d => exact fun v H' F' g r => h v H' F' (l.g.trans g) r
  | own ds => exact fun p vs H' F' g n f e r => h p vs H' F' (l.g.trans g) (l.g.same.free n) f e r
  | exn d => exact h
  | bad => exact h
mutual
theorem ss : ∀ (a : S) (P : Px) (ok : POkS P) (x : Stmt), mS P.gz P.G P.X.N P.X.env.scope P.rz a x = true → PS P.X x (tS P (exe P.G a))
  | .set i e, P, ok, x, h => by
    cases x with
    | Assign ts v pos =>
      match ts, h with
      | [], h => exact absurd h Bool.false_ne_true
      | t :: _ :: _, h => cases t <;> exact absurd h Bool.false_ne_true
      | [t], h =>
        cases t with
        | Name y p =>
          obtain ⟨h1, h2⟩ := a2 h
          obtain ⟨h2, h3⟩ := a2 h2
          obtain ⟨h4, h5⟩ := locn_ok h1
          refine PS.imp (ps_set ok.ok.nd h4 h5 (se e P ok.ok v h3) (swaps_ok h2 _ _ _) (.inl (ok.fn y))) fun Ed σ H ⟨F, s, l, q⟩ => ⟨F, s, l, ?_⟩
          have q : SQ P H F Ed (stn i s (ev P.G e s)) := q
          cases ee : ev P.G e s with
          | ok d => rw [ee] at q; exact fun v H' F' g r => q _ H' F' g.keep ((l.grow g).set r)
          | own ds => rw [ee] at q; exact fun p vs H' F' g n f e r => q _ H' F' g.keep (l.setOwn g n f e r)
          | exn d => rw [ee] at q; exact q
          | bad => rw [ee] at q; exact q
        | _ => exact absurd h Bool.false_ne_true
    | _ => exact absurd h Bool.false_ne_true
  | .setv i e, P, ok, x, h => by
    cases x with
    | Assign ts v pos =>
      match ts, h with
      | [], h => exact absurd h Bool.false_ne_true
      | t :: _ :: _, h => cases t <;> exact absurd h Bool.false_ne_true
      | [t], h =>
        cases t with
        | Name y p =>
          obtain ⟨h1, h2⟩ := a2 h
          obtain ⟨h2, h3⟩ := a2 h2
          obtain ⟨h4, h5⟩ := locn_ok h1
          refine PS.imp (ps_set ok.ok.nd h4 h5 (se e P ok.ok v h3) (swaps_ok h2 _ _ _) (.inl (ok.fn y))) fun Ed σ H q => ?_
          exact (tS.sbn (f := fun s d => .nx (s.set i (.val d))) q).imp fun v H' ⟨F', s, d, l, r, q⟩ => q _ H' F' (Keep.refl _ _) (l.set r)
        | _ => exact absurd h Bool.false_ne_true
    | _ => exact absurd h Bool.false_ne_true
  | .unp is e, P, ok, x, h => by
    cases x with
    | Assign ts v pos =>
      match ts, h with
      | [], h => exact absurd h Bool.false_ne_true
      | t :: _ :: _, h => cases t <;> exact absurd h Bool.false_ne_true
      | [t], h =>
        cases t with
        | Tuple es k p =>
          obtain ⟨h1, h3⟩ := a2 h
          obtain ⟨h3, h4⟩ := a2 h3
          refine PS.imp (ps_asg (se e P ok.ok v h4) (pg_sqD ok (is := is) (es := es) (k := k) (pos := p) h1) (show swapsWithSole [Expr.Tuple es k p] v pos.line P.X.env = pure false from swaps_tup v es k p pos.line P.X.env) (stores_ok h3 _ _)) fun Ed σ H q => ?_
          refine (tS.sbn (f := fun s d => match d with | .tup ds => optn (putL is ds s) .nx | .lst ds => optn (putL is ds s) .nx | _ => .bad) q).imp fun v H' ⟨F', s, d, l, r, q⟩ => ?_
          cases r with
          | @tup a xs ds hl hr =>
            have q : SQ P H' F' Ed (optn (putL is ds s) .nx) := q
            cases e : putL is ds s with
            | none => rw [e] at q; exact (show False from q).elim
            | some s1 =>
              rw [e] at q
              exact ⟨a, xs, rfl, .inl hl.sq, by rw [hr.length, putL_len e], gL_put l hr e fun σ' l' => q σ' H' F' (Keep.refl _ _) l'⟩
          | @lst a xs ds hl hr =>
            have q : SQ P H' F' Ed (optn (putL is ds s) .nx) := q
            cases e : putL is ds s with
            | none => rw [e] at q; exact (show False from q).elim
            | some s1 =>
              rw [e] at q
              exact ⟨a, xs, rfl, .inr hl.sq, by rw [hr.length, putL_len e], gL_put l hr e fun σ' l' => q σ' H' F' (Keep.refl _ _) l'⟩
          | _ => exact (show False from q).elim
        | _ => exact absurd h Bool.false_ne_true
    | _ => exact absurd h Bool.false_ne_true
  | .par i j a b, P, ok, x, h => by
    unfold mS at h
    split at h
    · rename_i y py w pw kt pt v u k2 pt2 pos
      obtain ⟨h1, h2⟩ := a2 h
      obtain ⟨h2, h3⟩ := a2 h2
      obtain ⟨h3, h4⟩ := a2 h3
      obtain ⟨h4, h5⟩ := a2 h4
      obtain ⟨h5, h6⟩ := a2 h5
      have hp := h4
      unfold parC at hp
      simp only [Bool.and_eq_true, beq_iff_eq] at hp
      intro pins st σ H Ed I ⟨F, s, l, q⟩
      have q : SQ P H F Ed (sbn s (ev P.G a s) fun x => sbn s (ev P.G b s) fun y => .nx ((s.set i (.val x)).set j (.val y))) := q
      refine ps_par ok.ok.calm ok.ok.nd (beq_iff_eq.mp h1) (beq_iff_eq.mp h2) (by simpa using h3) hp.1 hp.2.1 (pa_cons (se a P ok.ok v h5) (pa_cons (se b P ok.ok u h6) pa_nil (star_ok hp.2.2.2.2.2.1 _ _)) (star_ok hp.2.2.2.2.1 _ _)) (swapped_ok I.ok.kind h4) rfl pins st σ H Ed I ?_
      refine ⟨F, s, l, (SQ.sbn q).imp fun v' H1 ⟨F1, x, g1, r1, q1⟩ => ⟨F1, s, l.grow g1, (SQ.sbn q1).imp fun w' H2 ⟨F2, y', g2, r2, q2⟩ => ⟨v', w', rfl, ?_⟩⟩⟩
      exact q2 _ _ _ (Keep.refl _ _) ((((l.grow g1).grow g2).set (r1.grow g2)).set r2)
    · exact absurd h Bool.false_ne_true
  | .aug i op e, P, ok, x, h => by
    cases x with
    | AugAssign t o v pos =>
      cases t with
      | Name y p =>
        obtain ⟨h1, h2⟩ := a2 h
        obtain ⟨h2, h3⟩ := a2 h2
        obtain ⟨h4, h5⟩ := locn_ok h2
        obtain ⟨h6, h1⟩ := a2 h1
        have eo : op = o := of_decide_eq_true h1
        subst eo
        refine PS.imp (ps_aug ok.ok.nd h4 h5 (se e P ok.ok v h3) (iop_bin rfl op h6) (.inl (ok.fn y))) fun Ed σ H ⟨F, s, l, q⟩ => ?_
        have q : SQ P H F Ed (sbn s (look s i) fun x => sbn s (ev P.G e s) fun y => sbn s (augop op x y) fun z => .nx (s.set i (.val z))) := q
        unfold look at q
        cases e1 : s[i]? with
        | none => rw [e1] at q; exact (show False from q).elim
        | some sl =>
          rw [e1] at q
          cases sl with
          | val d =>
            obtain ⟨o, e2, w, e3, r⟩ := l.slot i _ e1
            subst e3
            refine ⟨w, e2, F, s, l, ?_⟩
            have q : SQ P H F Ed (sbn s (ev P.G e s) fun y => sbn s (augop op d y) fun z => .nx (s.set i (.val z))) := q
            refine (SQ.sbn q).imp fun u H' ⟨F', y, g, r2, q⟩ => ?_
            refine ⟨F', s, d, y, (l.grow g).dom, r.grow g, r2, (SQ.sbn q).imp fun z H2 ⟨F2, dz, g2, rz, q⟩ => ?_⟩
            exact q _ _ _ (Keep.refl _ _) (((l.grow g).grow g2).set rz)
          | _ => exact (show False from q).elim
      | _ => exact absurd h Bool.false_ne_true
    | _ => exact absurd h Bool.false_ne_true
  | .expr e, P, ok, x, h => by
    cases x with
    | Expr v pos =>
      obtain ⟨h1, h2⟩ := a2 h
      refine PS.imp (ps_expr (se e P ok.ok v h2) (swaps_ok h1 _ _ _)) fun Ed σ H q => ?_
      exact (tS.sbn (f := fun s _ => .nx s) q).imp fun v H' ⟨F', s, d, l, r, q⟩ => q σ H' F' (Keep.refl _ _) l
    | _ => exact absurd h Bool.false_ne_true
  | .app i e, P, ok, x, h => by
    cases x with
    | Expr c pos =>
      cases c with
      | Call f es ks cp =>
        cases f with
        | Attribute o m ap =>
          cases o with
          | Name y yp =>
            match es, ks, h with
            | [v], [], h =>
              obtain ⟨h1, h2⟩ := a2 h
              obtain ⟨h2, h3⟩ := a2 h2
              obtain ⟨h3, h4⟩ := a2 h3
              obtain ⟨h4, h5⟩ := a2 h4
              have em : m = ("append" : Str) := beq_iff_eq.mp h1
              subst em
              obtain ⟨v1, v2, v3, v4⟩ := vis_ok h2
              have hfew : ((backTo cp (starEach [v] P.X.env)).all (fun x => !x.1) && (backToKw cp (keywordEach [] P.X.env)).all (fun x => x.1.isSome) && decide ([v].length + ([] : List Keyword).length + (if ([] : List Keyword).isEmpty then 0 else 1) < 30)) = true := by
                rw [star_ok h4]
                rfl
              refine PS.imp (ps_expr (pe_bm PySem.F.plainAttrs_list PySem.F.slot_list_append PySem.F.type_list_append mt_append (pe_var v1 v2 v3 v4) (pa_cons (se e P ok.ok v h5) pa_nil (star_ok h4 _ _)) rfl hfew h3 (star_ok h4 _ _) rfl) rfl) fun Ed σ H ⟨F, s, l, q⟩ => ?_
              have q : SQ P H F Ed (match s[i]? with
                | some (.own l) => sbn s (ev P.G e s) fun x => if l.length < sizeLine then .nx (s.set i (.own (l ++ [x]))) else .bad
                | _ => .bad) := q
              cases e1 : s[i]? with
              | none => rw [e1] at q; exact (show False from q).elim
              | some sl =>
                rw [e1] at q
                cases sl with
                | own ds =>
                  obtain ⟨o, e2, p, vs, e3, e4, nf, h0, r⟩ := l.slot i _ e1
                  subst e3
                  have q : SQ P H F Ed (sbn s (ev P.G e s) fun x => if ds.length < sizeLine then .nx (s.set i (.own (ds ++ [x]))) else .bad) := q
                  refine ⟨.ref p, e2, .inl ⟨rfl, vs, SqL.of e4⟩, F, s, l, (SQ.sbn q).imp fun w H' ⟨F', d, g, rw', q⟩ => ?_⟩
                  by_cases hz : ds.length < sizeLine
                  · rw [if_pos hz] at q
                    have e4' := g.same _ _ e4
                    have nf' : ¬ F' p := fun z => nf (g.old _ _ e4 z)
                    refine ⟨p, vs, w, rfl, rfl, e4', by rw [r.length]; exact hz, ?_⟩
                    obtain ⟨l2, k2⟩ := (l.grow g).app e1 e2 e4' nf' h0 (r.grow g) rw'
                    exact q _ _ _ k2 l2
                  · rw [if_neg hz] at q; exact (show False from q).elim
                | _ => exact (show False from q).elim
            | [], _, h => exact absurd h Bool.false_ne_true
            | _ :: _ :: _, _, h => exact absurd h Bool.false_ne_true
            | [_], _ :: _, h => exact absurd h Bool.false_ne_true
          | _ => exact absurd h Bool.false_ne_true
        | _ => exact absurd h Bool.false_ne_true
      | _ => exact absurd h Bool.false_ne_true
    | _ => exact absurd h Bool.false_ne_true
  | .iff c a b, P, ok, x, h => by
    cases x with
    | If t l r pos =>
      obtain ⟨h1, h2⟩ := a2 h
      obtain ⟨h2, h3⟩ := a2 h2
      refine PS.imp (ps_if (st c P ok.ok t h1) (sss a P ok l h2) (sss b P ok r h3)) fun Ed σ H ⟨F, s, l, q⟩ => ⟨F, s, l, ?_⟩
      have q : SQ P H F Ed (lpc s (evc P.G c s) (exs P.G a s) (exs P.G b s)) := q
      refine (lpc_q q).imp fun v H' ⟨F', g, k, e, q⟩ => ⟨k, e, ?_⟩
      cases k with
      | true => rw [if_pos rfl] at q ⊢; exact ⟨F', s, l.grow g, q⟩
      | false => rw [if_neg Bool.false_ne_true] at q ⊢; exact ⟨F', s, l.grow g, q⟩
    | _ => exact absurd h Bool.false_ne_true
  | .whl c b, P, ok, x, h => by
    cases x with
    | While t l r pos =>
      cases r with
      | cons _ _ => exact absurd h Bool.false_ne_true
      | nil =>
        obtain ⟨h1, h2⟩ := a2 h
        refine PS.imp (ps_while ok.hp (st c P ok.ok t h1) (sss b P ok l h2)) fun Ed σ H ⟨F, s, l, q⟩ => ?_
        refine ⟨fun m σ H => ∃ F s, Rl P H F σ s ∧ SQ P H F Ed (whl (evc P.G c) (exs P.G b) m s), ⟨P.G.fuel, F, s, l, q⟩, ?_⟩
        rintro m σ H ⟨F, s, l, q⟩
        cases m with
        | zero => exact (show False from q).elim
        | succ m =>
          have q : SQ P H F Ed (lpc s (evc P.G c s) (lpn (exs P.G b s) (whl (evc P.G c) (exs P.G b) m)) (.nx s)) := q
          refine ⟨F, s, l, (lpc_q q).imp fun v H' ⟨F', g, k, e, q⟩ => ⟨k, e, ?_⟩⟩
          have l' := l.grow g
          cases k with
          | false =>
            dsimp only
            rw [if_neg Bool.false_ne_true] at q ⊢
            exact q σ H' F' (Keep.refl _ _) l'
          | true =>
            dsimp only
            rw [if_pos rfl] at q ⊢
            refine ⟨fun σ' H' => ∃ F s, Rl P H' F σ' s ∧ SQ P H' F Ed (whl (evc P.G c) (exs P.G b) m s), fun σ' H' w => ⟨m, Nat.lt_succ_self m, w⟩, F', s, l', ?_⟩
            cases eb : exs P.G b s with
            | nx s3 => rw [eb] at q; exact fun σ' H' F' k l' => ⟨F', s3, l', SQ.keep k q⟩
            | ct s3 => rw [eb] at q; exact fun σ' H' F' k l' => ⟨F', s3, l', SQ.keep k q⟩
            | bk s3 => rw [eb] at q; exact q
            | rt d => rw [eb] at q; exact q
            | rto l => rw [eb] at q; exact q
            | ex d s3 => rw [eb] at q; exact q
            | bad => rw [eb] at q; exact q
    | _ => exact absurd h Bool.false_ne_true
  | .for t it b, P, ok, x, h => by
    cases x with
    | For tg iter l r pos =>
      cases r with
      | cons _ _ => exact absurd h Bool.false_ne_true
      | nil =>
        obtain ⟨h1, h2⟩ := a2 h
        obtain ⟨h2, h3⟩ := a2 h2
        obtain ⟨i1, i2⟩ := si it P ok.ok tg iter h2
        refine PS.imp (ps_for ok.hp ok.ok.calm i1 (pg_tg ok h1) (sss b P ok l h3) i2) fun Ed σ H ⟨F, s, l, q⟩ => ⟨F, s, l, ?_⟩
        have q : SQ P H F Ed (sbi s (evi P.G it s) fun xs => forL t (exs P.G b) xs s) := q
        cases e : evi P.G it s with
        | ok ds =>
          rw [e] at q
          intro J H' F' g gv
          exact turns (l.grow g) (SQ.keep g.keep q) gv.go gv.stop
        | exn d => rw [e] at q; exact q
        | bad => rw [e] at q; exact q
    | _ => exact absurd h Bool.false_ne_true
  | .ret e, P, ok, x, h => by
    cases x with
    | Return v pos =>
      cases v with
      | none => exact absurd h Bool.false_ne_true
      | some v =>
        have gen : (∀ s, exe P.G (.ret e) s = rtn s (ev P.G e s)) → PS P.X (.Return (some v) pos) (tS P (exe P.G (.ret e))) := fun he =>
          PS.imp (ps_ret (se e P ok.ok v h)) fun Ed σ H ⟨F, s, l, q⟩ => ⟨F, s, l, rt_of l (by rw [← he]; exact q)⟩
        cases e with
        | var i =>
          cases v with
          | Name y p =>
            obtain ⟨v1, v2, v3, v4⟩ := vis_ok h
            refine PS.imp (ps_ret (pe_var v1 v2 v3 v4)) fun Ed σ H ⟨F, s, l, q⟩ => ?_
            have q : SQ P H F Ed (rtv s[i]?) := q
            cases e1 : s[i]? with
            | none => rw [e1] at q; exact (show False from q).elim
            | some sl =>
              rw [e1] at q
              cases sl with
              | no => exact (show False from q).elim
              | val d =>
                obtain ⟨o, e2, w, e3, r⟩ := l.slot i _ e1
                subst e3
                exact ⟨w, e2, q w H F l.g r⟩
              | own ds =>
                obtain ⟨o, e2, p, vs, e3, e4, nf, h0, r⟩ := l.slot i _ e1
                subst e3
                exact ⟨.ref p, e2, q p vs H F l.g h0 nf e4 r⟩
              | dic ks ds => exact (show False from q).elim
          | _ => exact absurd h Bool.false_ne_true
        | _ => exact gen fun s => rfl
    | _ => exact absurd h Bool.false_ne_true
  | .retN, P, ok, x, h => by
    cases x with
    | Return v pos =>
      cases v with
      | none => exact PS.imp ps_retN fun Ed σ H ⟨F, s, l, q⟩ => q .non H F l.g .non
      | some v => exact absurd h Bool.false_ne_true
    | _ => exact absurd h Bool.false_ne_true
  | .raise c l, P, ok, x, h => by
    unfold mS at h
    split at h
    · rename_i y yp es cp pos
      obtain ⟨h1, h2⟩ := a2 h
      obtain ⟨h2, h3⟩ := a2 h2
      obtain ⟨h3, h4⟩ := a2 h3
      obtain ⟨h4, h5⟩ := a2 h4
      have e : c = y := beq_iff_eq.mp h1
      subst e
      exact ps_raise ok h3 (sa l P ok.ok es h5) h2 h4 h5
    · exact absurd h Bool.false_ne_true
  | .try b c i j, P, ok, x, h => by
    unfold mS at h
    split at h
    · rename_i l y yp n w wp u up ap hp pos
      obtain ⟨h1, h2⟩ := a2 h
      obtain ⟨h2, h3⟩ := a2 h2
      obtain ⟨h3, h4⟩ := a2 h3
      obtain ⟨h4, h5⟩ := a2 h4
      obtain ⟨h5, h6⟩ := a2 h5
      obtain ⟨h6, h7⟩ := a2 h6
      obtain ⟨h7, h8⟩ := a2 h7
      have e : c = y := beq_iff_eq.mp h1
      subst e
      refine ps_try ok h2 h3 (beq_iff_eq.mp h4) h5 h6 (by simpa using h7) fun P' ok' e1 e2 e3 e4 e5 => ?_
      have := sss b P' ok' l (by rw [e1, e2, e3, e4, e5]; exact h8)
      rw [e3] at this
      exact this
    · exact absurd h Bool.false_ne_true
  | .pass, P, ok, x, h => by
    cases x with
    | Pass pos => exact PS.imp ps_pass fun Ed σ H ⟨F, s, l, q⟩ => q σ H F (Keep.refl _ _) l
    | _ => exact absurd h Bool.false_ne_true
  | .brk, P, ok, x, h => by
    cases x with
    | Break pos => exact PS.imp ps_break fun Ed σ H ⟨F, s, l, q⟩ => q σ H F (Keep.refl _ _) l
    | _ => exact absurd h Bool.false_ne_true
  | .cont, P, ok, x, h => by
    cases x with
    | Continue pos => exact PS.imp ps_continue fun Ed σ H ⟨F, s, l, q⟩ => q σ H F (Keep.refl _ _) l
    | _ => exact absurd h Bool.false_ne_true
  | .doc, P, ok, x, h => by
    cases x with
    | Expr v pos =>
      cases v with
      | Constant c k p =>
        cases c with
        | str y => exact PS.imp ps_doc fun Ed σ H ⟨F, s, l, q⟩ => q σ H F (Keep.refl _ _) l
        | _ => exact absurd h Bool.false_ne_true
      | _ => exact absurd h Bool.false_ne_true
    | _ => exact absurd h Bool.false_ne_true
  | .frz is a, P, ok, x, h => PS.imp (ss a P ok x h) fun Ed σ H ⟨F, s, l, q⟩ => by
    obtain ⟨F', l', k'⟩ := Rl.frz (is := is) l
    exact ⟨F', _, l', SQ.keep k' q⟩
  | .newd i, P, ok, x, h => by
    unfold mS at h
    split at h
    · rename_i y yp dp pos
      obtain ⟨h4, h5⟩ := locn_ok h
      refine PS.imp (ps_set ok.ok.nd h4 h5 pe_dnewK rfl (.inl (ok.fn y))) fun Ed σ H ⟨F, s, l, q⟩ => ?_
      have q : SQ P H F Ed (.nx (s.set i (.dic [] []))) := q
      intro p hn
      obtain ⟨g, nf⟩ := grow_own (o := .dK []) l.dom hn
      exact q _ _ _ g.keep (l.setMine g hn ⟨p, [], rfl, upd_same, nf, l.g.same.free hn, rfl, .nil⟩)
    · exact absurd h Bool.false_ne_true
  | .dput i k e, P, ok, x, h => by
    unfold mS at h
    split at h
    · rename_i y yp r sp v pos
      obtain ⟨h1, h2⟩ := a2 h
      obtain ⟨h2, h3⟩ := a2 h2
      obtain ⟨h3, h4⟩ := a2 h3
      obtain ⟨h4, h5⟩ := a2 h4
      obtain ⟨v1, v2, v3, v4⟩ := vis_ok h1
      refine PS.imp (ps_dput (by have := ok.ok.hu'; omega) (pe_var v1 v2 v3 v4) (se k P ok.ok r h4) (se e P ok.ok v h5) (swaps_ok h3 _ _ _)) fun Ed σ H ⟨F, s, l, q⟩ => ?_
      have q : SQ P H F Ed (match s[i]? with
        | some (.dic ks l) => sbn s (ev P.G e s) fun x => sbn s (ev P.G k s) fun y => match y with
          | .str w => if l.length < sizeLine then .nx (s.set i (.dic (dpK ks l w x).1 (dpK ks l w x).2)) else .bad
          | _ => .bad
        | _ => .bad) := q
      cases e1 : s[i]? with
      | none => rw [e1] at q; exact (show False from q).elim
      | some sl =>
        rw [e1] at q
        cases sl with
        | dic ks ds =>
          obtain ⟨o, e2, p, vs, e3, e4, nf, h0, hln, rvs⟩ := l.slot i _ e1
          subst e3
          have q : SQ P H F Ed (sbn s (ev P.G e s) fun x => sbn s (ev P.G k s) fun y => match y with
            | .str w => if ds.length < sizeLine then .nx (s.set i (.dic (dpK ks ds w x).1 (dpK ks ds w x).2)) else .bad
            | _ => .bad) := q
          refine ⟨F, s, l, (SQ.sbn q).imp fun v' H1 ⟨F1, d, g1, r1, q1⟩ => ⟨.ref p, e2, F1, s, l.grow g1, (SQ.sbn q1).imp fun w' H2 ⟨F2, y', g2, r2, q2⟩ => ?_⟩⟩
          cases r2 with
          | str w =>
            have q2 : SQ P H2 F2 Ed (if ds.length < sizeLine then .nx (s.set i (.dic (dpK ks ds w d).1 (dpK ks ds w d).2)) else .bad) := q2
            by_cases hk : ds.length < sizeLine
            · rw [if_pos hk] at q2
              have g := g1.trans g2
              have e4' := g.same _ _ e4
              have hl : vs.length = ds.length := rvs.length
              have nf' : ¬ F2 p := fun z => nf (g.old _ _ e4 z)
              obtain ⟨vs', z1, z2, z3⟩ := put_zK (w := w) (v := v') (x := d) hln (rvs.grow g) (r1.grow g2)
              refine ⟨p, _, rfl, DPut.k (k := .inr w) (v := v') e4' (by rw [zK_len hln, hl]; exact hk), ?_⟩
              rw [z1]
              obtain ⟨l2, k2⟩ := (l.grow g).wrMine (y := .dic (dpK ks ds w d).1 (dpK ks ds w d).2) (ob := .dK (zK (dpK ks ds w d).1 vs')) e1 rfl rfl e2 nf' h0 ((l.grow g).tb.updD e4') fun kk => ⟨p, vs', rfl, upd_same, nf', h0, z2, z3.keep kk⟩
              exact q2 _ _ _ k2 l2
            · rw [if_neg hk] at q2; exact (show False from q2).elim
          | _ => exact (show False from q2).elim
        | _ => exact (show False from q).elim
    · exact absurd h Bool.false_ne_true
  | .put i j e, P, ok, x, h => by
    unfold mS at h
    split at h
    · rename_i y yp r sp v pos
      obtain ⟨h1, h2⟩ := a2 h
      obtain ⟨h2, h3⟩ := a2 h2
      obtain ⟨h3, h4⟩ := a2 h3
      obtain ⟨h4, h5⟩ := a2 h4
      obtain ⟨h5, h6⟩ := a2 h5
      obtain ⟨v1, v2, v3, v4⟩ := vis_ok h1
      refine PS.imp (ps_asg (se e P ok.ok v h6) (pg_sub (pe_var v1 v2 v3 v4) (se j P ok.ok r h5) set_list (by intro _; cases r <;> first | rfl | exact absurd h2 Bool.false_ne_true)) (show swapsWithSole [Expr.Subscript (.Name y yp) r sp] v pos.line P.X.env = pure false from swaps_ok (v := v) h3 (some (Expr.Subscript (.Name y yp) r sp)) pos.line P.X.env) (stores_ok h4 _ _)) fun Ed σ H ⟨F, s, l, q⟩ => ?_
      have q : SQ P H F Ed (match s[i]? with
        | some (.own l) => sbn s (ev P.G e s) fun x => sbn s (ev P.G j s) fun y => match y with
          | .int k => if 0 ≤ k ∧ k < l.length then .nx (s.set i (.own (l.set k.toNat x))) else .bad
          | _ => .bad
        | _ => .bad) := q
      cases e1 : s[i]? with
      | none => rw [e1] at q; exact (show False from q).elim
      | some sl =>
        rw [e1] at q
        cases sl with
        | own ds =>
          obtain ⟨o, e2, p, vs, e3, e4, nf, h0, rvs⟩ := l.slot i _ e1
          subst e3
          have q : SQ P H F Ed (sbn s (ev P.G e s) fun x => sbn s (ev P.G j s) fun y => match y with
            | .int k => if 0 ≤ k ∧ k < ds.length then .nx (s.set i (.own (ds.set k.toNat x))) else .bad
            | _ => .bad) := q
          refine ⟨F, s, l, (SQ.sbn q).imp fun v' H1 ⟨F1, d, g1, r1, q1⟩ => ⟨.ref p, e2, F1, s, l.grow g1, (SQ.sbn q1).imp fun w' H2 ⟨F2, y', g2, r2, q2⟩ => ?_⟩⟩
          cases r2 with
          | int k =>
            have q2 : SQ P H2 F2 Ed (if 0 ≤ k ∧ k < ds.length then .nx (s.set i (.own (ds.set k.toNat d))) else .bad) := q2
            by_cases hk : 0 ≤ k ∧ k < ds.length
            · rw [if_pos hk] at q2
              have g := g1.trans g2
              have e4' := g.same _ _ e4
              have hl : vs.length = ds.length := rvs.length
              have nf' : ¬ F2 p := fun z => nf (g.old _ _ e4 z)
              refine ⟨p, vs, k, k.toNat, rfl, rfl, e4', by unfold ixN; rw [if_pos hk.1, if_pos (by rw [hl]; exact hk.2)], ?_⟩
              obtain ⟨l2, k2⟩ := (l.grow g).wr (ws := vs.set k.toNat v') (es := ds.set k.toNat d) e1 e2 e4' nf' h0 (rvs.grow g) (Rps.set (r1.grow g2) _ (rvs.grow g))
              exact q2 _ _ _ k2 l2
            · rw [if_neg hk] at q2; exact (show False from q2).elim
          | _ => exact (show False from q2).elim
        | _ => exact (show False from q).elim
    · exact absurd h Bool.false_ne_true
  | .setl i t it ifs e, P, ok, x, h => by
    unfold mS at h
    split at h
    · rename_i y py v spos
      have h1 := (a2 h).1
      have h2 := (a2 (a2 h).2).1
      have h3 := (a2 (a2 (a2 h).2).2).1
      have h4 := (a2 (a2 (a2 h).2).2).2
      clear h
      obtain ⟨elt, tg, iter, cs, scope, pos, rfl, i1, i2, bo, hg, ht, he, ho⟩ := lc_parts ok.ok h4
      obtain ⟨h3, h5⟩ := a2 h3
      have h2' : P.X.env.scope.names.lookup y = some .local := beq_iff_eq.mp h2
      intro pins st σ H Ed I q
      have sw : swapsWith (.ListComp elt [⟨tg, iter, cs, 0⟩] scope pos) (some (.Name y py)) spos.line P.X.env = pure true := by
        have bk : P.X.env.blockKind = .function := by unfold Env.blockKind; rw [I.ok.kind]; rfl
        have k2 : P.X.env.kindOf y = some .local := h2'
        unfold swapsWith
        have l3 : py.line = pos.line := beq_iff_eq.mp h3
        have h5 : (scope.names.any fun (n, k) => n == y && (k == .local || k == .cell)) = false := by simpa using h5
        dsimp only
        rw [bk, k2, h5]
        simp [Expr.pos, l3]
      have q : tS P (fun s => stn i s (ev P.G (.lc t it ifs e) s)) Ed σ H := q
      refine ps_setLc ok.ok.calm ok.ok.nd (beq_iff_eq.mp h1) h2' sw i1 bo hg ht he i2 pins st σ H Ed I ?_
      obtain ⟨F, s, l, q⟩ := q
      refine lc_D ho ⟨F, s, l, ?_⟩
      show RQ P s H F (ev P.G (.lc t it ifs e) s) _
      have q : SQ P H F Ed (stn i s (ev P.G (.lc t it ifs e) s)) := q
      cases ee : ev P.G (.lc t it ifs e) s with
      | ok d => rw [ee] at q; exact fun v H' F' g r => q _ H' F' g.keep ((l.grow g).set r)
      | own ds => rw [ee] at q; exact fun p vs H' F' g n f e r => q _ H' F' g.keep (l.setOwn g n f e r)
      | exn d => rw [ee] at q; exact q
      | bad => rw [ee] at q; exact q
    · exact absurd h Bool.false_ne_true
  | .setc i t it ifs e, P, ok, x, h => by
    unfold mS at h
    split at h
    · rename_i y py v spos
      have h1 := (a2 h).1
      have h2 := (a2 (a2 h).2).1
      have h3 := (a2 (a2 (a2 h).2).2).1
      have h4 := (a2 (a2 (a2 h).2).2).2
      clear h
      obtain ⟨elt, tg, iter, cs, scope, pos, rfl, i1, i2, bo, hg, ht, he, ho⟩ := lc_parts ok.ok h4
      obtain ⟨h3, h5⟩ := a2 h3
      have h2' : P.X.env.scope.names.lookup y = some .local := beq_iff_eq.mp h2
      intro pins st σ H Ed I q
      have sw : swapsWith (.ListComp elt [⟨tg, iter, cs, 0⟩] scope pos) (some (.Name y py)) spos.line P.X.env = pure true := by
        have bk : P.X.env.blockKind = .function := by unfold Env.blockKind; rw [I.ok.kind]; rfl
        have k2 : P.X.env.kindOf y = some .local := h2'
        unfold swapsWith
        have l3 : py.line = pos.line := beq_iff_eq.mp h3
        have h5 : (scope.names.any fun (n, k) => n == y && (k == .local || k == .cell)) = false := by simpa using h5
        dsimp only
        rw [bk, k2, h5]
        simp [Expr.pos, l3]
      have q : tS P (fun s => sbn s (ev P.G (.lc t it ifs e) s) fun d => .nx (s.set i (.val d))) Ed σ H := q
      refine ps_setLc ok.ok.calm ok.ok.nd (beq_iff_eq.mp h1) h2' sw i1 bo hg ht he i2 pins st σ H Ed I ?_
      refine lc_D ho ((tS.sbn (f := fun s d => .nx (s.set i (.val d))) q).imp fun v H' ⟨F', s, d, l, r, q⟩ => ?_)
      exact q _ H' F' (Keep.refl _ _) (l.set r)
    · exact absurd h Bool.false_ne_true
theorem sss : ∀ (l : Ss) (P : Px) (ok : POkS P) (xs : List Stmt), mSs P.gz P.G P.X.N P.X.env.scope P.rz l xs = true → PSs P.X xs (tS P (exs P.G l))
  | .nil, P, ok, xs, h => by
    cases xs with
    | nil => exact PSs.imp pss_nil fun Ed σ H ⟨F, s, l, q⟩ => q σ H F (Keep.refl _ _) l
    | cons _ _ => exact absurd h Bool.false_ne_true
  | .cons a l, P, ok, xs, h => by
    cases xs with
    | nil => exact absurd h Bool.false_ne_true
    | cons x xs =>
      obtain ⟨h1, h2⟩ := a2 h
      refine PSs.imp (pss_cons (ss a P ok x h1) (sss l P ok xs h2)) fun Ed σ H ⟨F, s, lr, q⟩ => ⟨F, s, lr, ?_⟩
      have q : SQ P H F Ed (sqn (exe P.G a s) (exs P.G l)) := q
      cases e : exe P.G a s with
      | nx s1 => rw [e] at q; exact fun σ' H' F' k l' => ⟨F', s1, l', SQ.keep k q⟩
      | bk s1 => rw [e] at q; exact q
      | ct s1 => rw [e] at q; exact q
      | rt d => rw [e] at q; exact q
      | rto l => rw [e] at q; exact q
      | ex d s1 => rw [e] at q; exact q
      | bad => rw [e] at q; exact q
end
end
end Nf
set_option linter.all false
set_option maxRecDepth 100000
set_option autoImplicit false
set_option maxHeartbeats 4000000
namespace Nf
open PySem L2 PySem.Spec PyProof.Rows
structure Ent where
  name : Str
  qual : Str
  st : Stmt
  N : List Str
  ps : List Str
  body : Ss
  fe : Fe
  kw : Str → Nat := fun _ => 0
  gz : Bool := false
structure FnAt (K : PySem.W.Frag) (T : Addr → Prop) (e : Ent) (a : Addr) (fd : FuncData) : Prop where
  ex : ∃ (oc : Value) (od : Option Addr) (dV kV doc pm : Value) (an : Option Addr) (cdv ct : Value) (osl : Array (Option Value)),
    fd = PySem.W.fnOf e.name e.qual (defArgs e.st) (defBody e.st) (defScope e.st) dV kV doc pm an cdv ct ∧ K.lookup a = some ⟨oc, od, .func fd, osl⟩ ∧ PySem.W.codeIn K cdv e.qual = true ∧ (e.gz = true → ∃ c t, cdv = .ref c ∧ CodeK K c t ∧ T t)
  kp : PySem.W.keepIn K (.ref a) = true
section
variable {Pr : Program} {w : World} {K : PySem.W.Frag} {mg : Str → Option Value} {base : Heap}
theorem leave_core {X : Cx} {pins : List (Addr × Obj)} {σ : L2.St} {H1 H' : Hp} {st : Shared} {a C : Addr} {B : Heap} {a0 : Value} {s'' : Shared} (I : Inv X pins σ H1 st) (hex : X.ex = []) (hst : X.stack = X.env :: X.outer) (hsz : X.env.locals = X.s_0.heap.objs.size) (hfr : X.env.frame = some X.env.locals)
    (os : s''.os = st.os) (bare : GG st s'') (u1 : Un (frs X.stack) [] H1 H' st.heap s''.heap) (k1 : HOk X.prog X.w H' s''.heap) (f2 : Heap.FlyingW B X.outer a (.ref C) a0 s''.heap)
    (hB : ∀ b, b ∉ frs X.stack → (st.heap.get? b ≠ none ∨ H' b ≠ none) → B.get? b ≠ none) (new : st.heap.get? a = none) (free : H' a = none) : XAt X.prog X.w X.outer X.H_0 X.s_0 H' a C s'' := by
  have nx : ∀ {b : Addr}, b ∉ ([] : List Addr) := fun z => nomatch z
  have J : Inv X pins σ H' s'' := I.call' (ch := []) os u1 k1 bare (fun b z => absurd z nx)
  have jb : Un (frs X.outer) [] X.H_0 H' X.s_0.heap s''.heap := by have := J.base; rw [hex] at this; exact this
  have back : ∀ b, st.heap.get? b = none → X.s_0.heap.get? b = none := fun b q => by
    cases e : X.s_0.heap.get? b with
    | none => rfl
    | some o =>
      obtain ⟨o', e'⟩ := I.base.there b o e (by rw [hex]; exact nx)
      rw [q] at e'; cases e'
  refine ⟨J.os, J.bare, jb, J.hok, ⟨B, a0, f2, fun b hb hh => hB b (fun hm => ?_) ?_⟩, back a new, free⟩
  · rw [hst] at hm
    have hm : b ∈ List.filterMap (·.frame) (X.env :: X.outer) := hm
    rw [List.filterMap_cons, hfr] at hm
    rcases List.mem_cons.mp hm with z | z
    · subst z
      rcases hh with z | z
      · exact z (Heap.get?_none_of_le (by rw [hsz]; exact Nat.le_refl _))
      · exact z J.free
    · exact hb z
  · rcases hh with z | z
    · exact .inl fun q => z (back b q)
    · exact .inr z
theorem fr_pass {N : List Str} {qual : Str} {scope : Scope} {f : Addr} {cd : Value} {A : Around} {outer : List Env} {s : Shared} {H : Hp} {E : XK} {F Fs : Fz} {Hs : Hp} {rz : Bool} {G : Gm} {T : Addr → Prop} {gz : Bool} :
    XPass ⟨cxOf (CXm Pr w) Pr w K mg base N qual scope f cd A outer s H E, H, F, Hs, Fs, rz, fun d _ => ∀ a C H' F', Grow H F H' F' → XRp mg d C → E (.ref C) (some a) H', G, T, gz⟩ := by
  intro pins σ H1 F1 s1 st e s' d I l wq ⟨a, C, H', ea, x, a', C', F', eC, ea', g, xr⟩
  subst ea
  cases eC
  cases ea'
  obtain ⟨B, a0, f1, hB⟩ := x.fly
  refine wpAny_leaves_onW I.ok.frames rfl f1 fun h' f2 u => ?_
  obtain ⟨u1, k1⟩ := x.keeps (stk_fr I) f1 hB f2.1 u
  exact ⟨a, C, H', rfl, leave_core (s'' := { s' with heap := h' }) I rfl rfl rfl rfl x.os (x.bare.trans (.same rfl rfl)) u1 k1 f2 hB x.new x.free, wq a C H' F' (l.g.trans g) xr⟩
theorem fr_raise {N : List Str} {qual : Str} {scope : Scope} {f : Addr} {cd : Value} {A : Around} {outer : List Env} {s : Shared} {H : Hp} {E : XK} {F Fs : Fz} {Hs : Hp} {rz : Bool} {G : Gm} {T : Addr → Prop} {gz : Bool} {P : Px}
    (hP : P = ⟨cxOf (CXm Pr w) Pr w K mg base N qual scope f cd A outer s H E, H, F, Hs, Fs, rz, fun d _ => ∀ a C H' F', Grow H F H' F' → XRp mg d C → E (.ref C) (some a) H', G, T, gz⟩) :
    ∀ (pins : List (Addr × Obj)) (σ : L2.St) (H : Hp) (F : Fz) (s : En) (st : Shared) (h' : Heap) (a C : Addr) (vs : List Value) (d : D), Inv P.X pins σ H st → Rl P H F σ s → Heap.MadeExcOf st.heap h' a (.ref C) vs → XRp P.X.mg d C → P.W d s → P.X.xe (.ref a) { st with heap := h' } := by
  subst hP
  intro pins σ H1 F1 s1 st h' a C vs d I l hx xr wq
  let B : Heap := PySem.W.hideAll st.heap (frs (envOfC qual scope s.heap.objs.size f cd :: outer))
  have bk : B.StaysIn st.heap := fun b o e => PySem.W.of_hideAll _ e
  have ff : st.heap.FunFrames B (envOfC qual scope s.heap.objs.size f cd :: outer) := PySem.W.funFrames_hide I.stack fun env he b hb => List.mem_filterMap.mpr ⟨env, he, hb⟩
  refine wpAny_leaves_madeW (h := st.heap) I.ok.frames rfl bk ff hx fun h2 t f2 _ _ u => ?_
  have nx : ∀ {b : Addr}, b ∉ ([] : List Addr) := fun z => nomatch z
  have stay : ∀ b o, b ∉ frs (envOfC qual scope s.heap.objs.size f cd :: outer) → st.heap.get? b = some o → h2.get? b = some o := fun b o nb e => f2.1 b o (PySem.W.hideAll_get _ e nb)
  have frame : ∀ b o, b ∈ frs (envOfC qual scope s.heap.objs.size f cd :: outer) → st.heap.get? b = some o → ∃ sl, h2.get? b = some { o with slots := sl } := fun b o hb e => by
    obtain ⟨_, o1, e1, nf⟩ := ff.mem hb
    rw [e] at e1
    cases e1
    exact u b o (hx.keeps b o e) nf
  have nf : ∀ c o, H1 c = some o → c ∉ frs (envOfC qual scope s.heap.objs.size f cd :: outer) := fun c o hc hm => by
    have := (stk_fr I c hm).1
    rw [hc] at this; cases this
  have u1 : Un (frs (envOfC qual scope s.heap.objs.size f cd :: outer)) [] H1 H1 st.heap h2 := ⟨fun b o e n hb _ => stay b o hb e, fun b o e n hb _ => frame b o hb e, fun b o e n _ => n, fun b o e _ => by
    by_cases hb : b ∈ frs (envOfC qual scope s.heap.objs.size f cd :: outer)
    · obtain ⟨sl, e2⟩ := frame b o hb e
      exact ⟨_, e2⟩
    · exact ⟨o, stay b o hb e⟩, fun b xs e => e, fun b o u e => e, fun b ps e => ⟨#[], by simpa using e⟩⟩
  have k1 : HOk Pr w H1 h2 := fun b o e => by
    refine (I.hok b o e).stay (fun c v hc q => ?_) (fun _ q => q) fun _ _ q => q
    rcases hc with rfl | hc
    · exact stay c v (nf c _ e) q
    · exact stay c v (nf c _ hc) q
  have hn : H1 a = none := by
    cases q : H1 a with
    | none => rfl
    | some o => obtain ⟨o', e'⟩ := objok_there (I.hok a o q); rw [hx.new] at e'; cases e'
  refine ⟨a, C, H1, rfl, leave_core (s'' := { st with heap := h2 }) I rfl rfl rfl rfl rfl (.same rfl rfl) u1 k1 f2 (fun b hb hh q => ?_) hx.new hn, wq a C H1 F1 l.g xr⟩
  have : ∀ o, st.heap.get? b = some o → False := fun o e => by rw [show B.get? b = some o from PySem.W.hideAll_get _ e hb] at q; cases q
  rcases hh with z | z
  · cases e : st.heap.get? b with
    | none => exact z e
    | some o => exact this o e
  · cases e : H1 b with
    | none => exact z e
    | some o => obtain ⟨o', e'⟩ := objok_there (I.hok b o e); exact this o' e'
structure FnsOk (Pr : Program) (w : World) (K : PySem.W.Frag) (mg : Str → Option Value) (base : Heap) (T : Addr → Prop) (k : Nat) (G : Gm) : Prop where
  fn : ∀ f fe, G.fn f = some fe → ∃ a fd ps, mg f = some (.ref a) ∧ PySem.W.keepIn K (.ref a) = true ∧ FnOk Pr w K mg base (CXm Pr w) k a fd ps (spM K mg T fe.np fe.phi) ∧ DfOk K mg fd ps fe.dv ∧ KwAll K (G.kw f) fe.np fd ps
  mth : ∀ c m fe, G.mth c m = some fe → ∃ C f fd ps, mg c = some (.ref C) ∧ Cls K C ∧ Meth K C m f ∧ FnOk Pr w K mg base (CXm Pr w) k f fd ps (spM K mg T fe.np fe.phi) ∧ DfOk K mg fd ps fe.dv
theorem start_get {N : List Str} {vs : List V} {ds : List D} {H : Hp} {F : Fz} (r : Rps K mg H F vs ds) (hl : ds.length ≤ N.length) : ∀ (i : Nat) (x : Sl), (ds.map Sl.val ++ List.replicate (N.length - ds.length) Sl.no)[i]? = some x →
    ∃ o, (L2.start N vs)[i]? = some o ∧ (x = .no ∨ ∃ d v, x = .val d ∧ o = some v ∧ Rp K mg H F v d) := fun i x e => by
  have hlen := r.length
  unfold L2.start
  by_cases hi : i < ds.length
  · rw [List.getElem?_append_left (by simpa using hi), List.getElem?_map] at e
    cases e1 : ds[i]? with
    | none => rw [e1] at e; cases e
    | some d =>
      rw [e1] at e
      cases e
      obtain ⟨v, e2, rv⟩ := r.get e1
      refine ⟨some v, ?_, .inr ⟨d, v, rfl, rfl, rv⟩⟩
      rw [List.getElem?_append_left (by rw [List.length_map, hlen]; exact hi), List.getElem?_map, e2]
      rfl
  · rw [List.getElem?_append_right (by simpa using hi), List.getElem?_replicate] at e
    split at e
    · rename_i h
      cases e
      refine ⟨none, ?_, .inl rfl⟩
      rw [List.getElem?_append_right (by rw [List.length_map, hlen]; omega), List.getElem?_replicate, if_pos (by rw [List.length_map, hlen]; rw [List.length_map] at h; exact h)]
    · cases e
theorem fn_ok {e : Ent} {a : Addr} {fd : FuncData} {k : Nat} {G : Gm} {T : Addr → Prop} (A : FnAt K T e a fd) (S : FnScope e.N e.ps (defScope e.st)) (wd : Wok K mg G) (fns : FnsOk Pr w K mg base T k G) (bi : e.gz = true → ∃ bm, BiB base mg bm) (hm : mSs e.gz G e.N (defScope e.st) true e.body (defBody e.st) = true) :
    FnOk Pr w K mg base (CXm Pr w) (k + 2) a fd e.ps (spM K mg T e.ps.length (evF G ⟨e.N.length, e.body⟩)) := by
  obtain ⟨oc, od, dV, kV, doc, pm, an, cdv, ct, osl, rfl, lk, hcd, hgc⟩ := A.ex
  refine fn_of lk hcd S (fun vs H Q E ⟨F, ds, _, _, r, hl, _⟩ => by rw [r.length]; exact hl) fun A outer s H vs Q E hr hsp => ?_
  obtain ⟨F, ds, tb, dm, r, hl, q⟩ := hsp
  have hpl : e.ps.length ≤ e.N.length := by have := congrArg List.length S.pre; rw [List.length_take] at this; omega
  let P : Px := ⟨cxOf (CXm Pr w) Pr w K mg base e.N e.qual (defScope e.st) a cdv A outer s H E, H, F, H, F, true, fun d _ => ∀ a C H' F', Grow H F H' F' → XRp mg d C → E (.ref C) (some a) H', G, T, e.gz⟩
  have hr' : Room (k + 1) P.X.A := hr
  have hle1 : (if e.gz then 1 else 0) ≤ 1 := by split <;> omega
  have room : Room (k + (if e.gz then 1 else 0)) P.X.A := hr'.mono (by omega)
  refine ⟨tS P (exs G e.body), sss e.body P ?_ _ hm, ?_⟩
  · refine ⟨⟨S.nd, rfl, ?_, wd, fun f fe ef => ?_, fun c m fe ef => ?_, fr_pass, fun z => ?_, bi, fun _ => hr'.depth⟩, fun _ => rfl, PassesOwn.leaving, ⟨rfl, rfl⟩, fun _ => fr_raise rfl⟩
    · have := hr'.un
      show P.X.A.units + 64 + (if e.gz then 8 else 0) < cLine
      have hle : (if e.gz then 8 else 0) ≤ 8 := by split <;> omega
      omega
    · obtain ⟨a', fd', ps', m, kp, F', df, kw⟩ := fns.fn f fe ef
      exact ⟨a', k, fd', ps', m, kp, F', room, df, kw⟩
    · obtain ⟨C, f, fd', ps', m1, c1, c2, F', df⟩ := fns.mth c m fe ef
      exact ⟨C, f, k, fd', ps', m1, c1, c2, F', room, df⟩
    · obtain ⟨c, t, e1, e2, e3⟩ := hgc z
      exact ⟨c, t, e1, e2, e3⟩
  · refine ⟨F, ds.map Sl.val ++ List.replicate (e.N.length - ds.length) Sl.no, ⟨Grow.refl dm, ?_, fun i x ex => ?_, fun i j p l m e1 _ y1 _ _ _ => ?_, Keep.refl _ _, tb⟩, ?_⟩
    · unfold L2.start
      rw [List.length_append, List.length_append, List.length_map, List.length_map, List.length_replicate, List.length_replicate, r.length]
    · obtain ⟨o, e1, z⟩ := start_get (N := e.N) r (by omega) i x ex
      refine ⟨o, e1, ?_⟩
      rcases z with rfl | ⟨d, v, rfl, rfl, rv⟩
      · trivial
      · exact ⟨v, rfl, rv⟩
    · obtain ⟨o, _, z⟩ := start_get (N := e.N) r (by omega) i _ e1
      rcases z with z | ⟨d, v, z, _⟩ <;> (subst z; cases y1)
    · have q : (match evR (exs G e.body (ds.map Sl.val ++ List.replicate (e.N.length - ds.length) Sl.no)) with
        | .ok d => ∀ v H' F', Grow H F H' F' → Rp K mg H' F' v d → Q v H'
        | .own l => ∀ p vs H' F', Grow H F H' F' → H p = none → ¬ F' p → H' p = some (.lst vs) → Rps K mg H' F' vs l → Q (.ref p) H'
        | .exn d => ∀ a C H' F', Grow H F H' F' → XRp mg d C → E (.ref C) (some a) H'
        | .bad => False) := q
      cases eb : exs G e.body (ds.map Sl.val ++ List.replicate (e.N.length - ds.length) Sl.no) with
      | nx s1 => rw [eb] at q; exact fun σ' H' F' _ l => q .non H' F' l.g .non
      | bk s1 => rw [eb] at q; exact (show False from q).elim
      | ct s1 => rw [eb] at q; exact (show False from q).elim
      | rt d => rw [eb] at q; exact q
      | rto l => rw [eb] at q; exact q
      | ex d s1 => rw [eb] at q; exact q
      | bad => rw [eb] at q; exact q
theorem fn_phi {a : Addr} {fd : FuncData} {ps : List Str} {k np : Nat} {phi : List D → R} {g : Nat → List D → R} {T : Addr → Prop} (F : ∀ n, FnOk Pr w K mg base (CXm Pr w) k a fd ps (spM K mg T np (g n))) (h : ∀ ds, ds.length = np → phi ds = .bad ∨ ∃ n, g n ds = phi ds) :
    FnOk Pr w K mg base (CXm Pr w) k a fd ps (spM K mg T np phi) := by
  refine ⟨fun vs H Q E hs => ?_, fun A outer s H args us vs Q E hr he hb hv hs => ?_⟩
  · obtain ⟨F1, ds, tb, dm, r, hl, q⟩ := hs
    rcases h ds hl with z | ⟨n, z⟩
    · rw [z] at q; exact q.elim
    · exact (F n).len vs H Q E ⟨F1, ds, tb, dm, r, hl, by rw [z]; exact q⟩
  · obtain ⟨F1, ds, tb, dm, r, hl, q⟩ := hs
    rcases h ds hl with z | ⟨n, z⟩
    · rw [z] at q; exact q.elim
    · exact (F n).run A outer s H args us vs Q E hr he hb hv ⟨F1, ds, tb, dm, r, hl, by rw [z]; exact q⟩
end
end Nf
set_option linter.all false
set_option maxRecDepth 100000
set_option autoImplicit false
set_option maxHeartbeats 4000000
namespace Nf
open PySem PySem.W PySem.Spec PySem.Calls PyProof.Rows Builtin Builtin.ObjectAttr Builtin.Getset_descriptor
section
variable {prog : Program} {w : World} {A : Around} {E : Value → Shared → Prop} {s : Shared} {K : Frag} {x D : Addr}
structure XCls (K : Frag) (D : Addr) : Prop where
  hg : findIn K (.ref D) "__getattribute__" = some (some (.builtin "object.__getattribute__")) ∨ (findIn K (.ref D) "__getattribute__" = some (some (.builtin "BaseException.__getattribute__")) ∧ mroIn K D (.type "BaseException") = some true)
  gn : findIn K (.ref D) "__getattr__" = some none
  hdct : hasDictIn K D = true
  ha : findIn K (.ref D) "__class__" = some (some (.builtin "object.__class__"))
  hn : specialIn K (.builtin "object.__class__") "__get__" = some (some (.builtin "getset_descriptor.__get__"))
  htk : takesIn K (.builtin "object.__class__") = some true
  hm : mroIn K D (.type "object") = some true
def ClsAt (x D : Addr) (h : Heap) : Prop := ∃ o, h.get? x = some o ∧ o.cls = .ref D
theorem ty_cls {M : Model} {h : Heap} (p : ClsAt x D h) : Looks M h (typeOf (.ref x)) (.ref D) := by
  obtain ⟨o, e1, e2⟩ := p
  exact e2 ▸ (Looks.ld e1).andThen .now
theorem find_cls {M : Model} {h : Heap} (X : K.In h) (c : XCls K D) : Looks M h (find (.ref x) (.ref D) "__class__") (.bind (.builtin "getset_descriptor.__get__") (.builtin "object.__class__")) := by
  refine (looks_findIn (M := M) X c.ha).andThen ((show Looks M h (getOf (some (.builtin "object.__class__"))) (some (.builtin "getset_descriptor.__get__")) from looks_specialIn X c.hn).andThen ?_)
  exact (show Looks M h (dataDescriptor? (some (.builtin "object.__class__")) (some (.builtin "getset_descriptor.__get__"))) (some (.builtin "getset_descriptor.__get__", .builtin "object.__class__")) from (looks_takesIn (M := M) X c.htk).andThen .now).andThen (Looks.tag .now)
theorem cget_cls {R : Result → Shared → Prop} {tp : Value} (X : K.In s.heap) (p : ClsAt x D s.heap) (c : XCls K D) (h : R (.ok (.ret (.ref D))) s) : codeAny (model prog w) A (.call (.builtin "getset_descriptor.__get__") ⟨[.builtin "object.__class__", .ref x, tp], []⟩) R s := by
  obtain ⟨h0, gg, dd, tt, oo⟩ := s
  have La := ty_cls (M := model prog w) p
  have Lb := looks_mroIn (M := model prog w) X c.hm
  refine codeAny_call_builtin KF.slot_gs.plain KF.entry_gs (KF.slot_gs.check _ _ _ _ _ _ _ _ KF.type_class (KF.args_gs _ _ _) ?_)
  unfold Builtin.«getset_descriptor.__get__» descrGet; rw [dga_obj]
  refine wpAny_bind (wpAny_pure ?_); unfold descrGetter descrCheckInstance descrNameAndClass isInstance
  simp only [KF.owner_class]
  repeat lk
  refine ⟨Code.quiet_builtin _ (by decide +kernel), codeAny_builtin KF.entry_class ?_⟩
  unfold Builtin.«object.__class__» shownTypeOf; repeat lk
  exact h
theorem check_cls {M : Model} {nameV : Value} {Q : Unit → Shared → Prop} (X : K.In s.heap) (p : ClsAt x D s.heap) (hb : mroIn K D (.type "BaseException") = some true) (hq : Q () s) : wpAny M A (checkBuiltinCall "BaseException.__getattribute__" ⟨[.ref x, nameV], []⟩) Q E s := by
  obtain ⟨h0, gg, dd, tt, oo⟩ := s
  have La := ty_cls (M := M) p
  have Lb := looks_mroIn (M := M) X hb
  have hk : builtinKind "BaseException.__getattribute__" = some .slot := by decide +kernel
  have hsplit : splitId "BaseException.__getattribute__" = some ("BaseException", "__getattribute__") := by decide +kernel
  have ha := PySem.F.args_bexc_ga (.ref x) nameV
  simp only [checkBuiltinCall, hk, hsplit]
  refine wpAny_bind ?_
  unfold isInstance
  refine wpAny_bind (La.at (Lb.at ?_))
  repeat (first | assumption | wp_step)
theorem attr_cls {Q : Option Value → Shared → Prop} (X : K.In s.heap) (p : ClsAt x D s.heap) (c : XCls K D) (h : Q (some (.ref D)) { s with toks := s.toks + 1 }) : wpAny (model prog w) A (getAttr? (.ref x) "__class__") Q E s := by
  obtain ⟨h0, gg, dd, tt, oo⟩ := s
  have La := ty_cls (M := model prog w) p
  have Lc := find_cls (M := model prog w) (x := x) X c
  have Ld := looks_findIn (M := model prog w) X c.gn
  unfold getAttr? getAttrBy? getAttrBy
  rcases c.hg with hg | ⟨hg, hb⟩
  · have Lb := looks_findIn (M := model prog w) X hg
    refine wpAny_bind (wpAny_mkText (wpAny_bind (wpAny_attempt (wpAny_holding (wpAny_bind (La.at (wpAny_bind (Lb.at ?_))))))))
    show wpAny _ _ (getAttrEveryday _ _ _) _ _ _
    refine wpAny_bind (wpAny_onRaise (wpAny_runValue (codeAny_builtin F.plainObj_entry_getattr_hooked ?_)))
    refine wpAny_bind (wpAny_pure (wpAny_bind (La.at (wpAny_bind (Lc.at (wpAny_bind (Ld.at ?_)))))))
    show wpAny _ _ (holding [.builtin "object.__class__"] (call (.builtin "getset_descriptor.__get__") [.builtin "object.__class__", .ref x, .ref D]) >>= ret) _ _ _
    refine wpAny_bind (wpAny_holding (wpAny_call (cget_cls (s := ⟨h0, gg, dd, tt + 1, oo⟩) X p c ?_)))
    exact wpAny_pure (handed_on rfl (wpAny_pure h))
  · have Lb := looks_findIn (M := model prog w) X hg
    refine wpAny_bind (wpAny_mkText (wpAny_bind (wpAny_attempt (wpAny_holding (wpAny_bind (La.at (wpAny_bind (Lb.at ?_))))))))
    have hx2 : (Value.builtin "BaseException.__getattribute__" == Value.builtin "object.__getattribute__") = false := by decide +kernel
    dsimp only
    rw [if_neg (by rw [hx2]; simp)]
    unfold getAttrByItsOwn hookBefore
    rw [if_pos (show onTheHeap (Value.ref D) = true from rfl)]
    refine wpAny_bind (Ld.at ?_)
    refine wpAny_bind (wpAny_attempt (wpAny_holding ?_))
    unfold callGetattribute
    rw [if_neg (by simp)]
    unfold boundAndCalled
    rw [PySem.F.attr_ValueError.ga.bind (.ref x)]
    refine wpAny_bind (wpAny_pure ?_)
    refine wpAny_call (codeAny_call_builtin PySem.F.attr_ValueError.ga.plain PySem.F.entry_bexc_ga (check_cls (s := ⟨h0, gg, dd, tt + 1, oo⟩) X p hb ?_))
    refine wpAny_bind (wpAny_pure (wpAny_bind (wpAny_pure (wpAny_bind (La.at (wpAny_bind (Lc.at ?_)))))))
    show wpAny _ _ (holding [.builtin "object.__class__"] (call (.builtin "getset_descriptor.__get__") [.builtin "object.__class__", .ref x, .ref D]) >>= ret) _ _ _
    refine wpAny_bind (wpAny_holding (wpAny_call (cget_cls (s := ⟨h0, gg, dd, tt + 1, oo⟩) X p c ?_)))
    exact wpAny_pure (handed_on rfl (wpAny_pure h))
theorem kitx_cls (c : XCls K D) : KitX K (.ref x) (.ref D) (ClsAt x D) where
  ty := fun _ _ _ p => ty_cls p
  it := fun _ _ X _ => by
    obtain ⟨cdD, hcD, _⟩ := any_some c.hdct
    intro A' Q' E' s' k q
    unfold clsIn at hcD
    split at hcD
    · rename_i ho
      unfold isType loadHead
      exact wpAny_bind (wpAny_loadPart (k _ _ (X _ _ ho)) (wpAny_pure q))
    · cases hcD
  ne := fun h tp dd its n sl X htp => by
    obtain ⟨cdD, hcD, _⟩ := any_some c.hdct
    refine Bool.eq_false_iff.mpr fun q => ?_
    obtain rfl : D = tp := Value.ref.inj (beq_iff_eq.mp q)
    unfold clsIn at hcD
    split at hcD
    · rename_i ho
      cases (X _ _ ho).symm.trans htp
    · cases hcD
  ca := fun X p k => attr_cls X p c k
end
end Nf
set_option linter.all false
set_option maxRecDepth 100000
set_option autoImplicit false
namespace Nf
open PySem L2
theorem bnd_ok {d : D} {f : D → R} : bnd (.ok d) f = f d := rfl
theorem bnd_own {l : List D} {f : D → R} : bnd (.own l) f = f (.lst l) := rfl
theorem bnd_exn {d : D} {f : D → R} : bnd (.exn d) f = .exn d := rfl
theorem bndL_ok {d : List D} {f : List D → R} : bndL (.ok d) f = f d := rfl
theorem bndL_exn {d : D} {f : List D → R} : bndL (.exn d) f = .exn d := rfl
theorem bndI_ok {d : D} {f : D → RL} : bndI (.ok d) f = f d := rfl
theorem bndI_own {l : List D} {f : D → RL} : bndI (.own l) f = f (.lst l) := rfl
theorem bndI_exn {d : D} {f : D → RL} : bndI (.exn d) f = .exn d := rfl
theorem consL_ok {x : D} {l : List D} : consL x (.ok l) = .ok (x :: l) := rfl
theorem consL_exn {x : D} {d : D} : consL x (.exn d) = .exn d := rfl
theorem sbn_ok {s : En} {d : D} {f : D → SR} : sbn s (.ok d) f = f d := rfl
theorem sbn_own {s : En} {l : List D} {f : D → SR} : sbn s (.own l) f = f (.lst l) := rfl
theorem sbn_exn {s : En} {d : D} {f : D → SR} : sbn s (.exn d) f = .ex d s := rfl
theorem stn_ok {i : Nat} {s : En} {d : D} : stn i s (.ok d) = .nx (s.set i (.val d)) := rfl
theorem stn_own {i : Nat} {s : En} {d : List D} : stn i s (.own d) = .nx (s.set i (.own d)) := rfl
theorem stn_exn {i : Nat} {s : En} {d : D} : stn i s (.exn d) = .ex d s := rfl
theorem rtn_ok {s : En} {d : D} : rtn s (.ok d) = .rt d := rfl
theorem rtn_own {s : En} {d : List D} : rtn s (.own d) = .rto d := rfl
theorem rtn_exn {s : En} {d : D} : rtn s (.exn d) = .ex d s := rfl
theorem rtv_val {d : D} : rtv (some (.val d)) = .rt d := rfl
theorem rtv_own {l : List D} : rtv (some (.own l)) = .rto l := rfl
theorem sqn_nx {s : En} {k : En → SR} : sqn (.nx s) k = k s := rfl
theorem sqn_rt {d : D} {k : En → SR} : sqn (.rt d) k = .rt d := rfl
theorem sqn_rto {d : List D} {k : En → SR} : sqn (.rto d) k = .rto d := rfl
theorem sqn_ex {d : D} {s : En} {k : En → SR} : sqn (.ex d s) k = .ex d s := rfl
theorem sqn_bk {s : En} {k : En → SR} : sqn (.bk s) k = .bk s := rfl
theorem sqn_ct {s : En} {k : En → SR} : sqn (.ct s) k = .ct s := rfl
theorem lpn_nx {s : En} {k : En → SR} : lpn (.nx s) k = k s := rfl
theorem lpn_ct {s : En} {k : En → SR} : lpn (.ct s) k = k s := rfl
theorem lpn_rt {d : D} {k : En → SR} : lpn (.rt d) k = .rt d := rfl
theorem lpn_rto {d : List D} {k : En → SR} : lpn (.rto d) k = .rto d := rfl
theorem lpn_ex {d : D} {s : En} {k : En → SR} : lpn (.ex d s) k = .ex d s := rfl
theorem lpn_bk {s : En} {k : En → SR} : lpn (.bk s) k = .nx s := rfl
theorem lpc_t {s : En} {a b : SR} : lpc s (.ok (.bl true)) a b = a := rfl
theorem lpc_f {s : En} {a b : SR} : lpc s (.ok (.bl false)) a b = b := rfl
theorem lpc_exn {s : En} {a b : SR} {d : D} : lpc s (.exn d) a b = .ex d s := rfl
theorem optn_some {s : En} {k : En → SR} : optn (some s) k = k s := rfl
theorem sbi_ok {s : En} {l : List D} {k : List D → SR} : sbi s (.ok l) k = k l := rfl
theorem sbi_exn {s : En} {d : D} {k : List D → SR} : sbi s (.exn d) k = .ex d s := rfl
theorem cond_t {a b : R} : cond (.bl true) a b = a := rfl
theorem cond_f {a b : R} : cond (.bl false) a b = b := rfl
theorem tc_false {r : R} : tc false r = r := rfl
theorem tc_true {d : D} : tc true (.ok d) = tcv d := rfl
theorem tc_own {l : List D} : tc true (.own l) = tcv (.lst l) := rfl
theorem tc_exn {d : D} : tc true (.exn d) = .exn d := rfl
theorem tcv_bl {b : Bool} : tcv (.bl b) = .ok (.bl b) := rfl
theorem tcv_int {i : Int} : tcv (.int i) = .ok (.bl (i != 0)) := rfl
theorem tcv_non : tcv .non = .ok (.bl false) := rfl
theorem tcv_lst {l : List D} : tcv (.lst l) = .ok (.bl (!l.isEmpty)) := rfl
theorem tcv_tup {l : List D} : tcv (.tup l) = .ok (.bl (!l.isEmpty)) := rfl
theorem look_z {d : D} {s : En} : look (.val d :: s) 0 = .ok d := rfl
theorem look_s {x : Sl} {s : En} {i : Nat} : look (x :: s) (i + 1) = look s i := rfl
theorem conop_some {d : D} : conop (some d) = .ok d := rfl
theorem notop_bl {b : Bool} : notop (.bl b) = .ok (.bl (!b)) := rfl
theorem negop_int {i : Int} : negop (.int i) = .ok (.int (-i)) := rfl
theorem evR_rt {d : D} : evR (.rt d) = .ok d := rfl
theorem evR_rto {l : List D} : evR (.rto l) = .own l := rfl
theorem evR_nx {s : En} : evR (.nx s) = .ok .non := rfl
theorem evR_ex {d : D} {s : En} : evR (.ex d s) = .exn d := rfl
theorem okI_d {i : Int} : okI i = .ok (.int i) := rfl
theorem okB_d {b : Bool} : okB b = .ok (.bl b) := rfl
theorem tryn_nx {G : Gm} {c : Str} {i j : Nat} {s : En} : tryn G c i j (.nx s) = .nx s := rfl
theorem tryn_ex {G : Gm} {c : Str} {i j : Nat} {s : En} {d : D} (h : G.isi (tyN d) c = some true) : tryn G c i j (.ex d s) = .nx (((s.set i (.val d)).set j (.val d)).set i .no) := by
  show (match G.isi (tyN d) c with | some true => SR.nx (((s.set i (.val d)).set j (.val d)).set i .no) | _ => .bad) = _
  rw [h]
theorem exop_0 {c : Str} {s : En} : exop c [] s = .ex (.exc c []) s := by
  unfold exop; exact if_pos (Nat.zero_le _)
theorem exop_1 {c : Str} {s : En} {d : D} : exop c [d] s = .ex (.exc c [d]) s := by
  unfold exop; exact if_pos (Nat.le_of_lt (small1000 (n := 1) (by decide)))
theorem small_len {n : Nat} (h : n ≤ 1000) : n ≤ sizeLine := Nat.le_of_lt (small1000 h)
theorem tup_ok {l : List D} (h : l.length ≤ 1000) : tupop l = .ok (.tup l) := by
  unfold tupop; rw [if_pos (small_len h)]
theorem lst_ok {l : List D} (h : l.length ≤ 1000) : lstop l = .own l := by
  unfold lstop; rw [if_pos (small_len h)]
theorem log2_lt {n k : Nat} (h : n < 2 ^ k) (hk : 0 < k) : n.log2 < k := by
  by_cases h0 : n = 0
  · subst h0; simpa using hk
  · exact (Nat.log2_lt h0).mpr h
theorem bits_le {i : Int} {k : Nat} (h : i.natAbs < 2 ^ k) : Builtin.Int.intBits i ≤ k := by
  unfold Builtin.Int.intBits
  split
  · omega
  · rename_i h0
    have h0 : i.natAbs ≠ 0 := by simpa using h0
    have := (Nat.log2_lt h0).mpr h
    omega
theorem abs_lt {i : Int} {k : Nat} (h0 : -(2 ^ k : Int) < i) (h1 : i < 2 ^ k) : i.natAbs < 2 ^ k := by
  have e : ((2 ^ k : Nat) : Int) = (2 : Int) ^ k := by push_cast; rfl
  omega
theorem divOk_of {j : Int} {k : Nat} (h0 : 0 < j) (h1 : j < 2 ^ k) (hk : k ≤ 8999) : divOk j = true := by
  unfold divOk
  have hp : (0 : Int) < 2 ^ k := by omega
  have := abs_lt (i := j) (k := k) (by omega) h1
  have h2 : j.natAbs.log2 < 9000 := Nat.lt_of_lt_of_le (log2_lt (k := k + 1) (Nat.lt_of_lt_of_le this (Nat.pow_le_pow_right (by decide) (Nat.le_succ k))) (Nat.succ_pos k)) (by omega)
  rw [decide_eq_true h0, decide_eq_true h2]; rfl
theorem divOk_small {j : Int} (h0 : 0 < j) (h1 : j < 18446744073709551616) : divOk j = true := by
  have e : (2 : Int) ^ 64 = 18446744073709551616 := by decide
  exact divOk_of (k := 64) h0 (by rw [e]; exact h1) (by decide)
theorem shlOk_of {i j : Int} {k : Nat} (h0 : 0 ≤ j) (h1 : j ≤ 100000000) (hi : i.natAbs < 2 ^ k) (hk : k ≤ 34217728) : shlOk i j = true := by
  unfold shlOk
  have := bits_le hi
  have e : (2 : Int) ^ 27 = 134217728 := by decide
  rw [decide_eq_true h0, decide_eq_true (by rw [e]; omega)]; rfl
theorem shlOk_small {i j : Int} (h0 : 0 ≤ j) (h1 : j ≤ 100000000) (hi0 : -18446744073709551616 < i) (hi : i < 18446744073709551616) : shlOk i j = true := by
  have e : (2 : Int) ^ 64 = 18446744073709551616 := by decide
  exact shlOk_of (k := 64) h0 h1 (abs_lt (by rw [e]; exact hi0) (by rw [e]; exact hi)) (by decide)
theorem mulOk_l {i j : Int} (h0 : -18446744073709551616 < i) (h1 : i < 18446744073709551616) : mulOk i j = true := by
  have e : (2 : Int) ^ 64 = 18446744073709551616 := by decide
  have := bits_le (i := i) (k := 64) (abs_lt (by omega) (by omega))
  unfold mulOk; rw [decide_eq_true this, Bool.true_or, Bool.or_true]
theorem mulOk_r {i j : Int} (h0 : -18446744073709551616 < j) (h1 : j < 18446744073709551616) : mulOk i j = true := by
  have e : (2 : Int) ^ 64 = 18446744073709551616 := by decide
  have := bits_le (i := j) (k := 64) (abs_lt (by omega) (by omega))
  unfold mulOk; rw [decide_eq_true this, Bool.or_true, Bool.or_true]
theorem powOk_small {i j : Int} (h0 : 0 ≤ j) (h1 : j ≤ 1000000) (hi0 : -18446744073709551616 < i) (hi : i < 18446744073709551616) : powOk i j = true := by
  have e : (2 : Int) ^ 64 = 18446744073709551616 := by decide
  have b := bits_le (i := i) (k := 64) (abs_lt (by omega) (by omega))
  have e27 : (2 : Int) ^ 27 = 134217728 := by decide
  have : (Builtin.Int.intBits i : Int) * j ≤ 64 * j := Int.mul_le_mul_of_nonneg_right (by omega) h0
  unfold powOk
  rw [decide_eq_true h0, decide_eq_true (by omega)]; rfl
theorem aug_i {op : Operator} {i : Int} {y : D} : augop op (.int i) y = binop op (.int i) y := rfl
theorem aug_s {op : Operator} {i : Str} {y : D} : augop op (.str i) y = binop op (.str i) y := rfl
section
variable {i j : Int}
theorem b_add : binop .Add (.int i) (.int j) = .ok (.int (i + j)) := rfl
theorem b_sub : binop .Sub (.int i) (.int j) = .ok (.int (i - j)) := rfl
theorem b_mul (h : mulOk i j = true) : binop .Mult (.int i) (.int j) = .ok (.int (i * j)) := by
  show (if mulOk i j then okI (i * j) else .bad) = _
  rw [if_pos h]; rfl
theorem b_div (h : divOk j = true) : binop .FloorDiv (.int i) (.int j) = .ok (.int (i / j)) := by
  show (if divOk j then okI (i / j) else .bad) = _
  rw [if_pos h]; rfl
theorem b_mod (h : 0 < j) : binop .Mod (.int i) (.int j) = .ok (.int (i % j)) := by
  show (if 0 < j then okI (i % j) else .bad) = _
  rw [if_pos h]; rfl
theorem b_pow (h : powOk i j = true) : binop .Pow (.int i) (.int j) = .ok (.int (i ^ j.toNat)) := by
  show (if powOk i j then okI (i ^ j.toNat) else .bad) = _
  rw [if_pos h]; rfl
theorem b_shl (h : shlOk i j = true) : binop .LShift (.int i) (.int j) = .ok (.int (i * 2 ^ j.toNat)) := by
  show (if shlOk i j then okI (i * 2 ^ j.toNat) else .bad) = _
  rw [if_pos h]; rfl
theorem b_shr (h : 0 ≤ j) : binop .RShift (.int i) (.int j) = .ok (.int (i / 2 ^ j.toNat)) := by
  show (if 0 ≤ j then okI (i / 2 ^ j.toNat) else .bad) = _
  rw [if_pos h]; rfl
theorem b_mull (h0 : -18446744073709551616 < i) (h1 : i < 18446744073709551616) : binop .Mult (.int i) (.int j) = .ok (.int (i * j)) := by
  show (if mulOk i j then okI (i * j) else .bad) = _
  rw [if_pos (mulOk_l h0 h1)]; rfl
theorem b_mulr (h0 : -18446744073709551616 < j) (h1 : j < 18446744073709551616) : binop .Mult (.int i) (.int j) = .ok (.int (i * j)) := by
  show (if mulOk i j then okI (i * j) else .bad) = _
  rw [if_pos (mulOk_r h0 h1)]; rfl
theorem b_divs (h0 : 0 < j) (h1 : j < 18446744073709551616) : binop .FloorDiv (.int i) (.int j) = .ok (.int (i / j)) := b_div (divOk_small h0 h1)
theorem b_shls (h0 : 0 ≤ j) (h1 : j ≤ 100000000) (hi0 : -18446744073709551616 < i) (hi : i < 18446744073709551616) : binop .LShift (.int i) (.int j) = .ok (.int (i * 2 ^ j.toNat)) := b_shl (shlOk_small h0 h1 hi0 hi)
theorem b_pows (h0 : 0 ≤ j) (h1 : j ≤ 1000000) (hi0 : -18446744073709551616 < i) (hi : i < 18446744073709551616) : binop .Pow (.int i) (.int j) = .ok (.int (i ^ j.toNat)) := b_pow (powOk_small h0 h1 hi0 hi)
theorem b_and : binop .BitAnd (.int i) (.int j) = .ok (.int (Builtin.bitAnd i j)) := rfl
theorem b_or : binop .BitOr (.int i) (.int j) = .ok (.int (Builtin.bitOr i j)) := rfl
theorem beq_dec {a b : Int} : (a == b) = decide (a = b) := by
  by_cases h : a = b
  · subst h; simp
  · simp [h]
theorem c_eq : cmpop .Eq (.int i) (.int j) = .ok (.bl (decide (i = j))) := by
  show (match deq (.int i) (.int j) with | some b => okB b | none => .bad) = _
  have e : deq (.int i) (.int j) = some (i == j) := rfl
  rw [e, beq_dec]; rfl
theorem c_ne : cmpop .NotEq (.int i) (.int j) = .ok (.bl (!decide (i = j))) := by
  show (match deq (.int i) (.int j) with | some b => okB (!b) | none => .bad) = _
  have e : deq (.int i) (.int j) = some (i == j) := rfl
  rw [e, beq_dec]; rfl
theorem c_lt : cmpop .Lt (.int i) (.int j) = .ok (.bl (decide (i < j))) := rfl
theorem c_le : cmpop .LtE (.int i) (.int j) = .ok (.bl (decide (i ≤ j))) := rfl
theorem c_gt : cmpop .Gt (.int i) (.int j) = .ok (.bl (decide (j < i))) := rfl
theorem c_ge : cmpop .GtE (.int i) (.int j) = .ok (.bl (decide (j ≤ i))) := rfl
theorem c_isnot {x : D} : cmpop .IsNot x .non = .ok (.bl (!isNon x)) := rfl
theorem c_is {x : D} : cmpop .Is x .non = .ok (.bl (isNon x)) := rfl
theorem l_min : bltop .min [.int i, .int j] = .ok (.int (min i j)) := by
  show okI (if j < i then j else i) = _
  unfold okI
  congr 2
  omega
theorem l_max : bltop .max [.int i, .int j] = .ok (.int (max i j)) := by
  show okI (if j > i then j else i) = _
  unfold okI
  congr 2
  omega
theorem l_len {l : List D} : bltop .len [.lst l] = .ok (.int l.length) := rfl
theorem l_lent {l : List D} : bltop .len [.tup l] = .ok (.int l.length) := rfl
theorem l_intb {b : Bool} : bltop .int [.bl b] = .ok (.int (if b then 1 else 0)) := rfl
end
theorem tn_nat {n : Nat} : ((n : Int)).toNat = n := Int.toNat_natCast n
theorem tn_add {n m : Nat} : ((n : Int) + (m : Int)).toNat = n + m := by omega
theorem tn_sub1 {n : Nat} : ((n : Int) - 1).toNat = n - 1 := by omega
theorem at_ok {l : List D} {i : Int} {d : D} (h0 : 0 ≤ i) (h : l[i.toNat]? = some d) : atI l i = some d := by
  obtain ⟨n, rfl⟩ := Int.eq_ofNat_of_zero_le h0
  exact atI_nat h
theorem x_lst {l : List D} {i : Int} {d : D} (h0 : 0 ≤ i) (h : l[i.toNat]? = some d) : idxop (.lst l) (.int i) = .ok d := by
  show (match atI l i with | some d => R.ok d | none => .bad) = _
  rw [at_ok h0 h]
theorem x_tup {l : List D} {i : Int} {d : D} (h0 : 0 ≤ i) (h : l[i.toNat]? = some d) : idxop (.tup l) (.int i) = .ok d := by
  show (match atI l i with | some d => R.ok d | none => .bad) = _
  rw [at_ok h0 h]
theorem x_t0 {a : D} {l : List D} : idxop (.tup (a :: l)) (.int 0) = .ok a := x_tup (by decide) rfl
theorem x_t1 {a b : D} {l : List D} : idxop (.tup (a :: b :: l)) (.int 1) = .ok b := x_tup (by decide) rfl
theorem x_t2 {a b c : D} {l : List D} : idxop (.tup (a :: b :: c :: l)) (.int 2) = .ok c := x_tup (by decide) rfl
theorem x_l0 {a : D} {l : List D} : idxop (.lst (a :: l)) (.int 0) = .ok a := x_lst (by decide) rfl
theorem x_l1 {a b : D} {l : List D} : idxop (.lst (a :: b :: l)) (.int 1) = .ok b := x_lst (by decide) rfl
def isiB (t c : Str) : Option Bool := if t ∈ tyNames ∧ c ∈ (["int", "bool", "str", "list", "tuple"] : List Str) then some (t == c || (t == ("bool" : Str) && c == ("int" : Str))) else none
def isiT (tbl : List (Str × Str × Bool)) (t c : Str) : Option Bool := match isiB t c with
  | some b => some b
  | none => (tbl.find? fun x => x.1 == t && x.2.1 == c).map (·.2.2)
theorem isiT_B {tbl : List (Str × Str × Bool)} {t c : Str} {b : Bool} (h : isiB t c = some b) : isiT tbl t c = some b := by unfold isiT; rw [h]
def evN (G : Gm) (np : Nat) (f : Fd) (l : List D) : R := if l.length = np then evF G f l else .bad
theorem useFn_chk {np : Nat} {G : Gm} {f : Fd} : useFn (some ⟨np, [], evN G np f⟩) = evN G np f := by
  funext l
  show (if l.length ≤ np ∧ np ≤ l.length + ([] : List D).length then evN G np f (l ++ ([] : List D).drop (([] : List D).length - (np - l.length))) else .bad) = _
  rw [List.drop_nil, List.append_nil, List.length_nil]
  by_cases h : l.length = np
  · rw [if_pos ⟨by omega, by omega⟩]
  · rw [if_neg (fun z => h (by omega))]
    unfold evN
    rw [if_neg h]
def AllL {α : Type} (p : α → Prop) : List α → Prop
  | [] => True
  | x :: r => p x ∧ AllL p r
theorem AllL.mem {α : Type} {p : α → Prop} : ∀ {l : List α}, AllL p l → ∀ x ∈ l, p x
  | [], _, _, h => nomatch h
  | y :: r, ⟨h1, h2⟩, x, h => by
    rcases List.mem_cons.mp h with rfl | h
    · exact h1
    · exact AllL.mem h2 x h
theorem nc0 : ((0 : Nat) : Int) = 0 := rfl
theorem nc1 : ((1 : Nat) : Int) = 1 := rfl
theorem nc2 : ((2 : Nat) : Int) = 2 := rfl
theorem nc3 : ((3 : Nat) : Int) = 3 := rfl
theorem nc4 : ((4 : Nat) : Int) = 4 := rfl
theorem nc5 : ((5 : Nat) : Int) = 5 := rfl
theorem nc6 : ((6 : Nat) : Int) = 6 := rfl
theorem nc7 : ((7 : Nat) : Int) = 7 := rfl
theorem nc8 : ((8 : Nat) : Int) = 8 := rfl
theorem nc9 : ((9 : Nat) : Int) = 9 := rfl
theorem nc10 : ((10 : Nat) : Int) = 10 := rfl
theorem nc11 : ((11 : Nat) : Int) = 11 := rfl
theorem nc12 : ((12 : Nat) : Int) = 12 := rfl
end Nf
set_option linter.all false
set_option maxRecDepth 100000
set_option autoImplicit false
namespace Nf
open PySem L2
def b_is_whole : Ss := (.cons (.ret (.and (.isi (.var 0) ["int"]) (.not (.isi (.var 0) ["bool"])))) .nil)
def b_is_within : Ss := (.cons (.ret (.and (.call "is_whole" (.cons (.var 0) .nil)) (.chain .LtE .LtE (.var 1) (.var 0) (.var 2)))) .nil)
def b_l_cell : Ss := (.cons (.iff (.cmp .Lt (.var 1) (.blt .len (.cons (.var 0) .nil))) (.cons (.ret (.idx (.var 0) (.var 1))) .nil) .nil) (.cons (.ret (.ci 0)) .nil))
def b_flag_words : Ss := (.cons (.iff (.not (.call "is_within" (.cons (.var 0) (.cons (.ci 0) (.cons (.bin .BitOr (.bin .BitOr (.bin .BitOr (.bin .BitOr (.glob "NEAR") (.glob "FAINT")) (.glob "OVER")) (.glob "VOID")) (.glob "ODD")) .nil))))) (.cons (.raise "NoFlags" (.cons (.cs "flags are a whole number from 0 to 31") .nil)) .nil) .nil) (.cons (.ret (.lc (.tup [1, 2]) (.enm (.glob "WORDS")) (.cons (.bin .BitAnd (.bin .RShift (.var 0) (.var 1)) (.ci 1)) .nil) (.var 2))) .nil))
end Nf
set_option linter.all false
set_option maxRecDepth 100000
set_option autoImplicit false
set_option maxHeartbeats 4000000
namespace Nf
open PySem L2
abbrev cCell (u : List D → R) : Prop := ∀ (ns : List Int) (k : Nat), ∃ c : Int, u [.lst (ns.map D.int), .int k] = .ok (.int c)
theorem cell_ev {G : Gm} : cCell (evN G 2 ⟨2, b_l_cell⟩) := by
  intro ns k
  by_cases h : k < ns.length
  · refine ⟨ns[k], ?_⟩
    have hh : ((k : Int) < ((ns.map D.int).length : Int)) := by rw [List.length_map]; omega
    simp (disch := first | assumption | omega | exact Nat.le_of_ble_eq_true rfl) only [evN, eq_self, ↓reduceIte, exop_0, exop_1, tryn_nx, evm, evs, exs, exe, bnd_ok, bnd_own, bnd_exn, bndL_ok, bndL_exn, bndI_ok, bndI_own, bndI_exn, consL_ok, consL_exn, sbn_ok, sbn_own, sbn_exn, stn_ok, stn_own, stn_exn, rtn_ok, rtn_own, rtn_exn, rtv_val, rtv_own, sqn_nx, sqn_rt, sqn_rto, sqn_ex, sqn_bk, sqn_ct, lpn_nx, lpn_ct, lpn_rt, lpn_rto, lpn_ex, lpn_bk, lpc_t, lpc_f, lpc_exn, optn_some, sbi_ok, sbi_exn, cond_t, cond_f, tc_false, tc_true, tc_own, tc_exn, tcv_bl, tcv_int, tcv_non, tcv_lst, tcv_tup, look_z, look_s, conop_some, notop_bl, negop_int, evR_rt, evR_rto, evR_nx, evR_ex, okI_d, okB_d, evF, putL, putT, tup_ok, lst_ok, aug_i, aug_s, b_add, b_sub, b_mul, b_mull, b_mulr, b_div, b_divs, b_mod, b_pow, b_pows, b_shl, b_shls, b_shr, b_and, b_or, c_eq, c_ne, c_lt, c_le, c_gt, c_ge, c_isnot, c_is, l_min, l_max, l_len, l_lent, l_intb, x_t0, x_t1, x_t2, x_l0, x_l1, evi, List.map_cons, List.map_nil, List.length_cons, List.length_nil, List.cons_append, List.nil_append, List.replicate_succ, List.replicate_zero, Nat.reduceSub, Nat.reduceAdd, List.getElem?_cons_zero, List.getElem?_cons_succ, List.set_cons_zero, List.set_cons_succ, decide_true, decide_false, Bool.not_true, Bool.not_false, Nat.reduceLeDiff, Int.reduceLT, Int.reduceLE, Int.reduceEq, tn_nat, tn_add, tn_sub1, Int.one_mul, nc0, nc1, nc2, nc3, nc4, nc5, nc6, nc7, nc8, nc9, nc10, nc11, nc12, bndP, lcO, cln, wip, Tg.ix, evcs, bitlop, b_l_cell, hh]
    rw [x_lst (d := .int ns[k]) (by omega) (by simp [h])]
    simp only [evN, eq_self, ↓reduceIte, exop_0, exop_1, tryn_nx, evm, evs, exs, exe, bnd_ok, bnd_own, bnd_exn, bndL_ok, bndL_exn, bndI_ok, bndI_own, bndI_exn, consL_ok, consL_exn, sbn_ok, sbn_own, sbn_exn, stn_ok, stn_own, stn_exn, rtn_ok, rtn_own, rtn_exn, rtv_val, rtv_own, sqn_nx, sqn_rt, sqn_rto, sqn_ex, sqn_bk, sqn_ct, lpn_nx, lpn_ct, lpn_rt, lpn_rto, lpn_ex, lpn_bk, lpc_t, lpc_f, lpc_exn, optn_some, sbi_ok, sbi_exn, cond_t, cond_f, tc_false, tc_true, tc_own, tc_exn, tcv_bl, tcv_int, tcv_non, tcv_lst, tcv_tup, look_z, look_s, conop_some, notop_bl, negop_int, evR_rt, evR_rto, evR_nx, evR_ex, okI_d, okB_d, evF, putL, putT, tup_ok, lst_ok, aug_i, aug_s, b_add, b_sub, b_mul, b_mull, b_mulr, b_div, b_divs, b_mod, b_pow, b_pows, b_shl, b_shls, b_shr, b_and, b_or, c_eq, c_ne, c_lt, c_le, c_gt, c_ge, c_isnot, c_is, l_min, l_max, l_len, l_lent, l_intb, x_t0, x_t1, x_t2, x_l0, x_l1, evi, List.map_cons, List.map_nil, List.length_cons, List.length_nil, List.cons_append, List.nil_append, List.replicate_succ, List.replicate_zero, Nat.reduceSub, Nat.reduceAdd, List.getElem?_cons_zero, List.getElem?_cons_succ, List.set_cons_zero, List.set_cons_succ, decide_true, decide_false, Bool.not_true, Bool.not_false, Nat.reduceLeDiff, Int.reduceLT, Int.reduceLE, Int.reduceEq, tn_nat, tn_add, tn_sub1, Int.one_mul, nc0, nc1, nc2, nc3, nc4, nc5, nc6, nc7, nc8, nc9, nc10, nc11, nc12, bndP, lcO, cln, wip, Tg.ix, evcs, bitlop]
  · have hh : ¬ ((k : Int) < ((ns.map D.int).length : Int)) := by rw [List.length_map]; omega
    refine ⟨0, ?_⟩
    simp (disch := first | assumption | omega | exact Nat.le_of_ble_eq_true rfl) only [evN, eq_self, ↓reduceIte, exop_0, exop_1, tryn_nx, evm, evs, exs, exe, bnd_ok, bnd_own, bnd_exn, bndL_ok, bndL_exn, bndI_ok, bndI_own, bndI_exn, consL_ok, consL_exn, sbn_ok, sbn_own, sbn_exn, stn_ok, stn_own, stn_exn, rtn_ok, rtn_own, rtn_exn, rtv_val, rtv_own, sqn_nx, sqn_rt, sqn_rto, sqn_ex, sqn_bk, sqn_ct, lpn_nx, lpn_ct, lpn_rt, lpn_rto, lpn_ex, lpn_bk, lpc_t, lpc_f, lpc_exn, optn_some, sbi_ok, sbi_exn, cond_t, cond_f, tc_false, tc_true, tc_own, tc_exn, tcv_bl, tcv_int, tcv_non, tcv_lst, tcv_tup, look_z, look_s, conop_some, notop_bl, negop_int, evR_rt, evR_rto, evR_nx, evR_ex, okI_d, okB_d, evF, putL, putT, tup_ok, lst_ok, aug_i, aug_s, b_add, b_sub, b_mul, b_mull, b_mulr, b_div, b_divs, b_mod, b_pow, b_pows, b_shl, b_shls, b_shr, b_and, b_or, c_eq, c_ne, c_lt, c_le, c_gt, c_ge, c_isnot, c_is, l_min, l_max, l_len, l_lent, l_intb, x_t0, x_t1, x_t2, x_l0, x_l1, evi, List.map_cons, List.map_nil, List.length_cons, List.length_nil, List.cons_append, List.nil_append, List.replicate_succ, List.replicate_zero, Nat.reduceSub, Nat.reduceAdd, List.getElem?_cons_zero, List.getElem?_cons_succ, List.set_cons_zero, List.set_cons_succ, decide_true, decide_false, Bool.not_true, Bool.not_false, Nat.reduceLeDiff, Int.reduceLT, Int.reduceLE, Int.reduceEq, tn_nat, tn_add, tn_sub1, Int.one_mul, nc0, nc1, nc2, nc3, nc4, nc5, nc6, nc7, nc8, nc9, nc10, nc11, nc12, bndP, lcO, cln, wip, Tg.ix, evcs, bitlop, b_l_cell, hh]
theorem p2 (n : Nat) : ((2 ^ n : Nat) : Int) = (2 : Int) ^ n := by push_cast; rfl
theorem p2pos (n : Nat) : (0 : Int) < 2 ^ n := Int.pow_pos (by decide)
end Nf
set_option linter.all false
set_option maxRecDepth 100000
set_option autoImplicit false
set_option maxHeartbeats 4000000
namespace Nf
open PySem L2
theorem for_all {t : Tg} {b : En → SR} (J : En → Prop) : ∀ {xs : List D} {s : En}, J s → (∀ x, x ∈ xs → ∀ s, J s → ∃ s1 s2, putT t x s = some s1 ∧ (b s1 = .nx s2 ∨ b s1 = .ct s2) ∧ J s2) → ∃ s', forL t b xs s = .nx s' ∧ J s'
  | [], s, h, _ => ⟨s, rfl, h⟩
  | x :: r, s, h, k => by
    obtain ⟨s1, s2, e1, e2, h2⟩ := k x (List.mem_cons_self ..) s h
    obtain ⟨s', e3, h3⟩ := for_all J (xs := r) h2 fun y hy => k y (List.mem_cons_of_mem _ hy)
    refine ⟨s', ?_, h3⟩
    show optn (putT t x s) (fun s1 => lpn (b s1) (forL t b r)) = _
    rw [e1, optn_some]
    rcases e2 with e2 | e2
    · rw [e2, lpn_nx, e3]
    · rw [e2, lpn_ct, e3]
theorem mem_rng : ∀ {n : Nat} {lo : Int} {x : D}, x ∈ rngL lo n → ∃ k, x = .int k ∧ lo ≤ k ∧ k < lo + n
  | 0, _, _, h => by cases h
  | n + 1, lo, x, h => by
    have h : x = .int lo ∨ x ∈ rngL (lo + 1) n := List.mem_cons.mp h
    rcases h with rfl | h
    · exact ⟨lo, rfl, Int.le_refl _, by omega⟩
    · obtain ⟨k, e, h1, h2⟩ := mem_rng h
      exact ⟨k, e, by omega, by omega⟩
theorem rngOk_of {a : Int} (h1 : -4611686018427387904 < a) (h2 : a < 4611686018427387904) : rngOk a = true := Nat.blt_eq.mpr (by omega)
theorem rng1_ok {i : Int} (h1 : -4611686018427387904 < i) (h2 : i < 4611686018427387904) : rng1op (.int i) = .ok (rngL 0 i.toNat) := by
  show (if rngOk i then RL.ok (rngL 0 i.toNat) else .bad) = _
  rw [rngOk_of h1 h2]; rfl
def Isi (G : Gm) : Prop := ∀ t c b, isiB t c = some b → G.isi t c = some b
theorem isi_one {G : Gm} {x : D} {c : Str} {b : Bool} (h : G.isi (tyN x) c = some b) : isiop G [c] x = .ok (.bl b) := by
  unfold isiop isiAny
  rw [h]
  show (match (some (b || false)) with | some b => okB b | none => .bad) = _
  rw [Bool.or_false]; rfl
theorem isi_bb {G : Gm} (h : Isi G) {x : D} {c : Str} {b : Bool} (e : isiB (tyN x) c = some b) : isiop G [c] x = .ok (.bl b) := isi_one (h _ _ _ e)
end Nf
set_option linter.all false
set_option maxRecDepth 100000
set_option autoImplicit false
set_option maxHeartbeats 4000000
namespace Nf
open PySem L2
theorem two_of {e m : Nat} {b : Int} (h0 : 0 ≤ b) (h1 : b < 2 * 2 ^ (e + m)) : (b < 2 ^ (e + m) ∧ b / 2 ^ (e + m) = 0 ∧ b % 2 ^ (e + m) = b) ∨ (2 ^ (e + m) ≤ b ∧ b / 2 ^ (e + m) = 1 ∧ b % 2 ^ (e + m) = b - 2 ^ (e + m)) := by
  have hp := p2pos (e + m)
  generalize (2 : Int) ^ (e + m) = H at *
  by_cases h : b < H
  · exact .inl ⟨h, Int.ediv_eq_zero_of_lt h0 h, Int.emod_eq_of_lt h0 h⟩
  · have q : b / H = 1 := by
      have a := Int.le_ediv_of_mul_le hp (show 1 * H ≤ b by omega)
      have c := Int.ediv_lt_of_lt_mul hp (show b < 2 * H by omega)
      omega
    refine .inr ⟨by omega, q, ?_⟩
    have := Int.emod_add_mul_ediv b H
    rw [q] at this
    omega
end Nf
set_option linter.all false
set_option maxRecDepth 100000
set_option autoImplicit false
set_option maxHeartbeats 4000000
namespace Nf
open PySem L2
end Nf
set_option linter.all false
set_option maxRecDepth 100000
set_option autoImplicit false
set_option maxHeartbeats 4000000
namespace Nf
open PySem L2
def isX (t c : Str) : Bool := c == t || (c == ("FoldError" : Str) || c == ("ValueError" : Str))
def xcls : List Str := ["NoShape", "NoBits", "NoParts", "NoNumber", "NoWay", "NoFlags", "NoWhole", "NoStep", "NoWord", "NoText", "NoName", "NoRow", "FoldError", "ValueError"]
abbrev XT (G : Gm) (t : Str) : Prop := ∀ c ∈ xcls, G.isi t c = some (isX t c)
theorem XT.at {G : Gm} {t c : Str} {b : Bool} (h : XT G t) (hc : c ∈ xcls) (hb : isX t c = b) : G.isi t c = some b := by rw [← hb]; exact h c hc
theorem XT.isi {G : Gm} {t c : Str} {b : Bool} (h : XT G t) (hc : c ∈ xcls) (hb : isX t c = b) (l : List D) : isiop G [c] (.exc t l) = .ok (.bl b) := isi_one (h.at hc hb)
theorem XT.try {G : Gm} {t : Str} (h : XT G t) (hb : isX t "FoldError" = true) {i j : Nat} {s : En} {l : List D} : tryn G "FoldError" i j (.ex (.exc t l) s) = .nx (((s.set i (.val (.exc t l))).set j (.val (.exc t l))).set i .no) := tryn_ex (h.at (by decide +kernel) hb)
end Nf
set_option linter.all false
set_option maxRecDepth 100000
set_option autoImplicit false
set_option maxHeartbeats 4000000
namespace Nf
open PySem L2
def ht (m : Nat) (z : Int) : Int := if z / 2 ^ m = 0 then z % 2 ^ m else (2 ^ m + z % 2 ^ m) * 2 ^ (z / 2 ^ m - 1).toNat
def plainD : D → Prop
  | .ins _ => False
  | .exc _ _ => False
  | .dct _ _ => False
  | _ => True
def wholeD : D → Bool
  | .int _ => true
  | _ => false
def boolD : D → Bool
  | .bl _ => true
  | _ => false
def withD (x : D) (lo hi : Int) : Bool := match x with
  | .int i => decide (lo ≤ i) && decide (i ≤ hi)
  | _ => false
theorem isi_i {G : Gm} (h : Isi G) {x : D} (hx : plainD x) : isiop G ["int"] x = .ok (.bl (wholeD x || boolD x)) := by
  cases x with
  | ins c => exact hx.elim
  | exc c l => exact hx.elim
  | dct _ _ => exact hx.elim
  | non => exact isi_bb h (show isiB "NoneType" "int" = some false by decide +kernel)
  | bl b => exact isi_bb h (show isiB "bool" "int" = some true by decide +kernel)
  | int i => exact isi_bb h (show isiB "int" "int" = some true by decide +kernel)
  | str i => exact isi_bb h (show isiB "str" "int" = some false by decide +kernel)
  | tup i => exact isi_bb h (show isiB "tuple" "int" = some false by decide +kernel)
  | lst i => exact isi_bb h (show isiB "list" "int" = some false by decide +kernel)
theorem isi_b {G : Gm} (h : Isi G) {x : D} (hx : plainD x) : isiop G ["bool"] x = .ok (.bl (boolD x)) := by
  cases x with
  | ins c => exact hx.elim
  | exc c l => exact hx.elim
  | dct _ _ => exact hx.elim
  | non => exact isi_bb h (show isiB "NoneType" "bool" = some false by decide +kernel)
  | bl b => exact isi_bb h (show isiB "bool" "bool" = some true by decide +kernel)
  | int i => exact isi_bb h (show isiB "int" "bool" = some false by decide +kernel)
  | str i => exact isi_bb h (show isiB "str" "bool" = some false by decide +kernel)
  | tup i => exact isi_bb h (show isiB "tuple" "bool" = some false by decide +kernel)
  | lst i => exact isi_bb h (show isiB "list" "bool" = some false by decide +kernel)
abbrev cIsWhole (u : List D → R) : Prop := ∀ x, plainD x → u [x] = .ok (.bl (wholeD x))
theorem is_whole_gen {G : Gm} (h : Isi G) (b : Ss) (hb : b = b_is_whole) : cIsWhole (evN G 1 ⟨1, b⟩) := by
  subst hb
  intro x hx
  have h1 := isi_i h hx
  have h2 := isi_b h hx
  cases hw : wholeD x <;> cases hb : boolD x
  · rw [hw, hb] at h1; rw [hb] at h2
    simp (disch := first | assumption | omega | exact Nat.le_of_ble_eq_true rfl) only [evN, eq_self, ↓reduceIte, exop_0, exop_1, tryn_nx, evm, evs, exs, exe, bnd_ok, bnd_own, bnd_exn, bndL_ok, bndL_exn, bndI_ok, bndI_own, bndI_exn, consL_ok, consL_exn, sbn_ok, sbn_own, sbn_exn, stn_ok, stn_own, stn_exn, rtn_ok, rtn_own, rtn_exn, rtv_val, rtv_own, sqn_nx, sqn_rt, sqn_rto, sqn_ex, sqn_bk, sqn_ct, lpn_nx, lpn_ct, lpn_rt, lpn_rto, lpn_ex, lpn_bk, lpc_t, lpc_f, lpc_exn, optn_some, sbi_ok, sbi_exn, cond_t, cond_f, tc_false, tc_true, tc_own, tc_exn, tcv_bl, tcv_int, tcv_non, tcv_lst, tcv_tup, look_z, look_s, conop_some, notop_bl, negop_int, evR_rt, evR_rto, evR_nx, evR_ex, okI_d, okB_d, evF, putL, putT, tup_ok, lst_ok, aug_i, aug_s, b_add, b_sub, b_mul, b_mull, b_mulr, b_div, b_divs, b_mod, b_pow, b_pows, b_shl, b_shls, b_shr, b_and, b_or, c_eq, c_ne, c_lt, c_le, c_gt, c_ge, c_isnot, c_is, l_min, l_max, l_len, l_lent, l_intb, x_t0, x_t1, x_t2, x_l0, x_l1, evi, List.map_cons, List.map_nil, List.length_cons, List.length_nil, List.cons_append, List.nil_append, List.replicate_succ, List.replicate_zero, Nat.reduceSub, Nat.reduceAdd, List.getElem?_cons_zero, List.getElem?_cons_succ, List.set_cons_zero, List.set_cons_succ, decide_true, decide_false, Bool.not_true, Bool.not_false, Nat.reduceLeDiff, Int.reduceLT, Int.reduceLE, Int.reduceEq, tn_nat, tn_add, tn_sub1, Int.one_mul, nc0, nc1, nc2, nc3, nc4, nc5, nc6, nc7, nc8, nc9, nc10, nc11, nc12, bndP, lcO, cln, wip, Tg.ix, evcs, bitlop, b_is_whole, h1, h2, Bool.or_false, Bool.false_or]
  · rw [hw, hb] at h1; rw [hb] at h2
    simp (disch := first | assumption | omega | exact Nat.le_of_ble_eq_true rfl) only [evN, eq_self, ↓reduceIte, exop_0, exop_1, tryn_nx, evm, evs, exs, exe, bnd_ok, bnd_own, bnd_exn, bndL_ok, bndL_exn, bndI_ok, bndI_own, bndI_exn, consL_ok, consL_exn, sbn_ok, sbn_own, sbn_exn, stn_ok, stn_own, stn_exn, rtn_ok, rtn_own, rtn_exn, rtv_val, rtv_own, sqn_nx, sqn_rt, sqn_rto, sqn_ex, sqn_bk, sqn_ct, lpn_nx, lpn_ct, lpn_rt, lpn_rto, lpn_ex, lpn_bk, lpc_t, lpc_f, lpc_exn, optn_some, sbi_ok, sbi_exn, cond_t, cond_f, tc_false, tc_true, tc_own, tc_exn, tcv_bl, tcv_int, tcv_non, tcv_lst, tcv_tup, look_z, look_s, conop_some, notop_bl, negop_int, evR_rt, evR_rto, evR_nx, evR_ex, okI_d, okB_d, evF, putL, putT, tup_ok, lst_ok, aug_i, aug_s, b_add, b_sub, b_mul, b_mull, b_mulr, b_div, b_divs, b_mod, b_pow, b_pows, b_shl, b_shls, b_shr, b_and, b_or, c_eq, c_ne, c_lt, c_le, c_gt, c_ge, c_isnot, c_is, l_min, l_max, l_len, l_lent, l_intb, x_t0, x_t1, x_t2, x_l0, x_l1, evi, List.map_cons, List.map_nil, List.length_cons, List.length_nil, List.cons_append, List.nil_append, List.replicate_succ, List.replicate_zero, Nat.reduceSub, Nat.reduceAdd, List.getElem?_cons_zero, List.getElem?_cons_succ, List.set_cons_zero, List.set_cons_succ, decide_true, decide_false, Bool.not_true, Bool.not_false, Nat.reduceLeDiff, Int.reduceLT, Int.reduceLE, Int.reduceEq, tn_nat, tn_add, tn_sub1, Int.one_mul, nc0, nc1, nc2, nc3, nc4, nc5, nc6, nc7, nc8, nc9, nc10, nc11, nc12, bndP, lcO, cln, wip, Tg.ix, evcs, bitlop, b_is_whole, h1, h2, Bool.or_false, Bool.false_or]
  · rw [hw, hb] at h1; rw [hb] at h2
    simp (disch := first | assumption | omega | exact Nat.le_of_ble_eq_true rfl) only [evN, eq_self, ↓reduceIte, exop_0, exop_1, tryn_nx, evm, evs, exs, exe, bnd_ok, bnd_own, bnd_exn, bndL_ok, bndL_exn, bndI_ok, bndI_own, bndI_exn, consL_ok, consL_exn, sbn_ok, sbn_own, sbn_exn, stn_ok, stn_own, stn_exn, rtn_ok, rtn_own, rtn_exn, rtv_val, rtv_own, sqn_nx, sqn_rt, sqn_rto, sqn_ex, sqn_bk, sqn_ct, lpn_nx, lpn_ct, lpn_rt, lpn_rto, lpn_ex, lpn_bk, lpc_t, lpc_f, lpc_exn, optn_some, sbi_ok, sbi_exn, cond_t, cond_f, tc_false, tc_true, tc_own, tc_exn, tcv_bl, tcv_int, tcv_non, tcv_lst, tcv_tup, look_z, look_s, conop_some, notop_bl, negop_int, evR_rt, evR_rto, evR_nx, evR_ex, okI_d, okB_d, evF, putL, putT, tup_ok, lst_ok, aug_i, aug_s, b_add, b_sub, b_mul, b_mull, b_mulr, b_div, b_divs, b_mod, b_pow, b_pows, b_shl, b_shls, b_shr, b_and, b_or, c_eq, c_ne, c_lt, c_le, c_gt, c_ge, c_isnot, c_is, l_min, l_max, l_len, l_lent, l_intb, x_t0, x_t1, x_t2, x_l0, x_l1, evi, List.map_cons, List.map_nil, List.length_cons, List.length_nil, List.cons_append, List.nil_append, List.replicate_succ, List.replicate_zero, Nat.reduceSub, Nat.reduceAdd, List.getElem?_cons_zero, List.getElem?_cons_succ, List.set_cons_zero, List.set_cons_succ, decide_true, decide_false, Bool.not_true, Bool.not_false, Nat.reduceLeDiff, Int.reduceLT, Int.reduceLE, Int.reduceEq, tn_nat, tn_add, tn_sub1, Int.one_mul, nc0, nc1, nc2, nc3, nc4, nc5, nc6, nc7, nc8, nc9, nc10, nc11, nc12, bndP, lcO, cln, wip, Tg.ix, evcs, bitlop, b_is_whole, h1, h2, Bool.or_false, Bool.true_or]
  · cases x <;> first | exact absurd hw Bool.false_ne_true | exact absurd hb Bool.false_ne_true
theorem is_whole_ev {G : Gm} (h : Isi G) : cIsWhole (evN G 1 ⟨1, b_is_whole⟩) := is_whole_gen h _ rfl
abbrev cWithin (u : List D → R) : Prop := ∀ x (lo hi : Int), plainD x → u [x, .int lo, .int hi] = .ok (.bl (withD x lo hi))
theorem is_within_ev {G : Gm} (hW : cIsWhole (useFn (G.fn "is_whole"))) : cWithin (evN G 3 ⟨3, b_is_within⟩) := by
  intro x lo hi hx
  have h1 := hW x hx
  cases x with
  | ins c => exact hx.elim
  | exc c l => exact hx.elim
  | dct _ _ => exact hx.elim
  | int i =>
    show _ = R.ok (.bl (decide (lo ≤ i) && decide (i ≤ hi)))
    have h1 : useFn (G.fn "is_whole") [.int i] = .ok (.bl true) := h1
    by_cases hl : lo ≤ i
    · simp (disch := first | assumption | omega | exact Nat.le_of_ble_eq_true rfl) only [evN, eq_self, ↓reduceIte, exop_0, exop_1, tryn_nx, evm, evs, exs, exe, bnd_ok, bnd_own, bnd_exn, bndL_ok, bndL_exn, bndI_ok, bndI_own, bndI_exn, consL_ok, consL_exn, sbn_ok, sbn_own, sbn_exn, stn_ok, stn_own, stn_exn, rtn_ok, rtn_own, rtn_exn, rtv_val, rtv_own, sqn_nx, sqn_rt, sqn_rto, sqn_ex, sqn_bk, sqn_ct, lpn_nx, lpn_ct, lpn_rt, lpn_rto, lpn_ex, lpn_bk, lpc_t, lpc_f, lpc_exn, optn_some, sbi_ok, sbi_exn, cond_t, cond_f, tc_false, tc_true, tc_own, tc_exn, tcv_bl, tcv_int, tcv_non, tcv_lst, tcv_tup, look_z, look_s, conop_some, notop_bl, negop_int, evR_rt, evR_rto, evR_nx, evR_ex, okI_d, okB_d, evF, putL, putT, tup_ok, lst_ok, aug_i, aug_s, b_add, b_sub, b_mul, b_mull, b_mulr, b_div, b_divs, b_mod, b_pow, b_pows, b_shl, b_shls, b_shr, b_and, b_or, c_eq, c_ne, c_lt, c_le, c_gt, c_ge, c_isnot, c_is, l_min, l_max, l_len, l_lent, l_intb, x_t0, x_t1, x_t2, x_l0, x_l1, evi, List.map_cons, List.map_nil, List.length_cons, List.length_nil, List.cons_append, List.nil_append, List.replicate_succ, List.replicate_zero, Nat.reduceSub, Nat.reduceAdd, List.getElem?_cons_zero, List.getElem?_cons_succ, List.set_cons_zero, List.set_cons_succ, decide_true, decide_false, Bool.not_true, Bool.not_false, Nat.reduceLeDiff, Int.reduceLT, Int.reduceLE, Int.reduceEq, tn_nat, tn_add, tn_sub1, Int.one_mul, nc0, nc1, nc2, nc3, nc4, nc5, nc6, nc7, nc8, nc9, nc10, nc11, nc12, bndP, lcO, cln, wip, Tg.ix, evcs, bitlop, b_is_within, h1, hl, Bool.true_and]
    · simp (disch := first | assumption | omega | exact Nat.le_of_ble_eq_true rfl) only [evN, eq_self, ↓reduceIte, exop_0, exop_1, tryn_nx, evm, evs, exs, exe, bnd_ok, bnd_own, bnd_exn, bndL_ok, bndL_exn, bndI_ok, bndI_own, bndI_exn, consL_ok, consL_exn, sbn_ok, sbn_own, sbn_exn, stn_ok, stn_own, stn_exn, rtn_ok, rtn_own, rtn_exn, rtv_val, rtv_own, sqn_nx, sqn_rt, sqn_rto, sqn_ex, sqn_bk, sqn_ct, lpn_nx, lpn_ct, lpn_rt, lpn_rto, lpn_ex, lpn_bk, lpc_t, lpc_f, lpc_exn, optn_some, sbi_ok, sbi_exn, cond_t, cond_f, tc_false, tc_true, tc_own, tc_exn, tcv_bl, tcv_int, tcv_non, tcv_lst, tcv_tup, look_z, look_s, conop_some, notop_bl, negop_int, evR_rt, evR_rto, evR_nx, evR_ex, okI_d, okB_d, evF, putL, putT, tup_ok, lst_ok, aug_i, aug_s, b_add, b_sub, b_mul, b_mull, b_mulr, b_div, b_divs, b_mod, b_pow, b_pows, b_shl, b_shls, b_shr, b_and, b_or, c_eq, c_ne, c_lt, c_le, c_gt, c_ge, c_isnot, c_is, l_min, l_max, l_len, l_lent, l_intb, x_t0, x_t1, x_t2, x_l0, x_l1, evi, List.map_cons, List.map_nil, List.length_cons, List.length_nil, List.cons_append, List.nil_append, List.replicate_succ, List.replicate_zero, Nat.reduceSub, Nat.reduceAdd, List.getElem?_cons_zero, List.getElem?_cons_succ, List.set_cons_zero, List.set_cons_succ, decide_true, decide_false, Bool.not_true, Bool.not_false, Nat.reduceLeDiff, Int.reduceLT, Int.reduceLE, Int.reduceEq, tn_nat, tn_add, tn_sub1, Int.one_mul, nc0, nc1, nc2, nc3, nc4, nc5, nc6, nc7, nc8, nc9, nc10, nc11, nc12, bndP, lcO, cln, wip, Tg.ix, evcs, bitlop, b_is_within, h1, hl, Bool.false_and]
  | non => have h1 : useFn (G.fn "is_whole") [.non] = .ok (.bl false) := h1; simp (disch := first | assumption | omega | exact Nat.le_of_ble_eq_true rfl) only [evN, eq_self, ↓reduceIte, exop_0, exop_1, tryn_nx, evm, evs, exs, exe, bnd_ok, bnd_own, bnd_exn, bndL_ok, bndL_exn, bndI_ok, bndI_own, bndI_exn, consL_ok, consL_exn, sbn_ok, sbn_own, sbn_exn, stn_ok, stn_own, stn_exn, rtn_ok, rtn_own, rtn_exn, rtv_val, rtv_own, sqn_nx, sqn_rt, sqn_rto, sqn_ex, sqn_bk, sqn_ct, lpn_nx, lpn_ct, lpn_rt, lpn_rto, lpn_ex, lpn_bk, lpc_t, lpc_f, lpc_exn, optn_some, sbi_ok, sbi_exn, cond_t, cond_f, tc_false, tc_true, tc_own, tc_exn, tcv_bl, tcv_int, tcv_non, tcv_lst, tcv_tup, look_z, look_s, conop_some, notop_bl, negop_int, evR_rt, evR_rto, evR_nx, evR_ex, okI_d, okB_d, evF, putL, putT, tup_ok, lst_ok, aug_i, aug_s, b_add, b_sub, b_mul, b_mull, b_mulr, b_div, b_divs, b_mod, b_pow, b_pows, b_shl, b_shls, b_shr, b_and, b_or, c_eq, c_ne, c_lt, c_le, c_gt, c_ge, c_isnot, c_is, l_min, l_max, l_len, l_lent, l_intb, x_t0, x_t1, x_t2, x_l0, x_l1, evi, List.map_cons, List.map_nil, List.length_cons, List.length_nil, List.cons_append, List.nil_append, List.replicate_succ, List.replicate_zero, Nat.reduceSub, Nat.reduceAdd, List.getElem?_cons_zero, List.getElem?_cons_succ, List.set_cons_zero, List.set_cons_succ, decide_true, decide_false, Bool.not_true, Bool.not_false, Nat.reduceLeDiff, Int.reduceLT, Int.reduceLE, Int.reduceEq, tn_nat, tn_add, tn_sub1, Int.one_mul, nc0, nc1, nc2, nc3, nc4, nc5, nc6, nc7, nc8, nc9, nc10, nc11, nc12, bndP, lcO, cln, wip, Tg.ix, evcs, bitlop, b_is_within, h1]; rfl
  | bl b => have h1 : useFn (G.fn "is_whole") [.bl b] = .ok (.bl false) := h1; simp (disch := first | assumption | omega | exact Nat.le_of_ble_eq_true rfl) only [evN, eq_self, ↓reduceIte, exop_0, exop_1, tryn_nx, evm, evs, exs, exe, bnd_ok, bnd_own, bnd_exn, bndL_ok, bndL_exn, bndI_ok, bndI_own, bndI_exn, consL_ok, consL_exn, sbn_ok, sbn_own, sbn_exn, stn_ok, stn_own, stn_exn, rtn_ok, rtn_own, rtn_exn, rtv_val, rtv_own, sqn_nx, sqn_rt, sqn_rto, sqn_ex, sqn_bk, sqn_ct, lpn_nx, lpn_ct, lpn_rt, lpn_rto, lpn_ex, lpn_bk, lpc_t, lpc_f, lpc_exn, optn_some, sbi_ok, sbi_exn, cond_t, cond_f, tc_false, tc_true, tc_own, tc_exn, tcv_bl, tcv_int, tcv_non, tcv_lst, tcv_tup, look_z, look_s, conop_some, notop_bl, negop_int, evR_rt, evR_rto, evR_nx, evR_ex, okI_d, okB_d, evF, putL, putT, tup_ok, lst_ok, aug_i, aug_s, b_add, b_sub, b_mul, b_mull, b_mulr, b_div, b_divs, b_mod, b_pow, b_pows, b_shl, b_shls, b_shr, b_and, b_or, c_eq, c_ne, c_lt, c_le, c_gt, c_ge, c_isnot, c_is, l_min, l_max, l_len, l_lent, l_intb, x_t0, x_t1, x_t2, x_l0, x_l1, evi, List.map_cons, List.map_nil, List.length_cons, List.length_nil, List.cons_append, List.nil_append, List.replicate_succ, List.replicate_zero, Nat.reduceSub, Nat.reduceAdd, List.getElem?_cons_zero, List.getElem?_cons_succ, List.set_cons_zero, List.set_cons_succ, decide_true, decide_false, Bool.not_true, Bool.not_false, Nat.reduceLeDiff, Int.reduceLT, Int.reduceLE, Int.reduceEq, tn_nat, tn_add, tn_sub1, Int.one_mul, nc0, nc1, nc2, nc3, nc4, nc5, nc6, nc7, nc8, nc9, nc10, nc11, nc12, bndP, lcO, cln, wip, Tg.ix, evcs, bitlop, b_is_within, h1]; rfl
  | str b => have h1 : useFn (G.fn "is_whole") [.str b] = .ok (.bl false) := h1; simp (disch := first | assumption | omega | exact Nat.le_of_ble_eq_true rfl) only [evN, eq_self, ↓reduceIte, exop_0, exop_1, tryn_nx, evm, evs, exs, exe, bnd_ok, bnd_own, bnd_exn, bndL_ok, bndL_exn, bndI_ok, bndI_own, bndI_exn, consL_ok, consL_exn, sbn_ok, sbn_own, sbn_exn, stn_ok, stn_own, stn_exn, rtn_ok, rtn_own, rtn_exn, rtv_val, rtv_own, sqn_nx, sqn_rt, sqn_rto, sqn_ex, sqn_bk, sqn_ct, lpn_nx, lpn_ct, lpn_rt, lpn_rto, lpn_ex, lpn_bk, lpc_t, lpc_f, lpc_exn, optn_some, sbi_ok, sbi_exn, cond_t, cond_f, tc_false, tc_true, tc_own, tc_exn, tcv_bl, tcv_int, tcv_non, tcv_lst, tcv_tup, look_z, look_s, conop_some, notop_bl, negop_int, evR_rt, evR_rto, evR_nx, evR_ex, okI_d, okB_d, evF, putL, putT, tup_ok, lst_ok, aug_i, aug_s, b_add, b_sub, b_mul, b_mull, b_mulr, b_div, b_divs, b_mod, b_pow, b_pows, b_shl, b_shls, b_shr, b_and, b_or, c_eq, c_ne, c_lt, c_le, c_gt, c_ge, c_isnot, c_is, l_min, l_max, l_len, l_lent, l_intb, x_t0, x_t1, x_t2, x_l0, x_l1, evi, List.map_cons, List.map_nil, List.length_cons, List.length_nil, List.cons_append, List.nil_append, List.replicate_succ, List.replicate_zero, Nat.reduceSub, Nat.reduceAdd, List.getElem?_cons_zero, List.getElem?_cons_succ, List.set_cons_zero, List.set_cons_succ, decide_true, decide_false, Bool.not_true, Bool.not_false, Nat.reduceLeDiff, Int.reduceLT, Int.reduceLE, Int.reduceEq, tn_nat, tn_add, tn_sub1, Int.one_mul, nc0, nc1, nc2, nc3, nc4, nc5, nc6, nc7, nc8, nc9, nc10, nc11, nc12, bndP, lcO, cln, wip, Tg.ix, evcs, bitlop, b_is_within, h1]; rfl
  | tup b => have h1 : useFn (G.fn "is_whole") [.tup b] = .ok (.bl false) := h1; simp (disch := first | assumption | omega | exact Nat.le_of_ble_eq_true rfl) only [evN, eq_self, ↓reduceIte, exop_0, exop_1, tryn_nx, evm, evs, exs, exe, bnd_ok, bnd_own, bnd_exn, bndL_ok, bndL_exn, bndI_ok, bndI_own, bndI_exn, consL_ok, consL_exn, sbn_ok, sbn_own, sbn_exn, stn_ok, stn_own, stn_exn, rtn_ok, rtn_own, rtn_exn, rtv_val, rtv_own, sqn_nx, sqn_rt, sqn_rto, sqn_ex, sqn_bk, sqn_ct, lpn_nx, lpn_ct, lpn_rt, lpn_rto, lpn_ex, lpn_bk, lpc_t, lpc_f, lpc_exn, optn_some, sbi_ok, sbi_exn, cond_t, cond_f, tc_false, tc_true, tc_own, tc_exn, tcv_bl, tcv_int, tcv_non, tcv_lst, tcv_tup, look_z, look_s, conop_some, notop_bl, negop_int, evR_rt, evR_rto, evR_nx, evR_ex, okI_d, okB_d, evF, putL, putT, tup_ok, lst_ok, aug_i, aug_s, b_add, b_sub, b_mul, b_mull, b_mulr, b_div, b_divs, b_mod, b_pow, b_pows, b_shl, b_shls, b_shr, b_and, b_or, c_eq, c_ne, c_lt, c_le, c_gt, c_ge, c_isnot, c_is, l_min, l_max, l_len, l_lent, l_intb, x_t0, x_t1, x_t2, x_l0, x_l1, evi, List.map_cons, List.map_nil, List.length_cons, List.length_nil, List.cons_append, List.nil_append, List.replicate_succ, List.replicate_zero, Nat.reduceSub, Nat.reduceAdd, List.getElem?_cons_zero, List.getElem?_cons_succ, List.set_cons_zero, List.set_cons_succ, decide_true, decide_false, Bool.not_true, Bool.not_false, Nat.reduceLeDiff, Int.reduceLT, Int.reduceLE, Int.reduceEq, tn_nat, tn_add, tn_sub1, Int.one_mul, nc0, nc1, nc2, nc3, nc4, nc5, nc6, nc7, nc8, nc9, nc10, nc11, nc12, bndP, lcO, cln, wip, Tg.ix, evcs, bitlop, b_is_within, h1]; rfl
  | lst b => have h1 : useFn (G.fn "is_whole") [.lst b] = .ok (.bl false) := h1; simp (disch := first | assumption | omega | exact Nat.le_of_ble_eq_true rfl) only [evN, eq_self, ↓reduceIte, exop_0, exop_1, tryn_nx, evm, evs, exs, exe, bnd_ok, bnd_own, bnd_exn, bndL_ok, bndL_exn, bndI_ok, bndI_own, bndI_exn, consL_ok, consL_exn, sbn_ok, sbn_own, sbn_exn, stn_ok, stn_own, stn_exn, rtn_ok, rtn_own, rtn_exn, rtv_val, rtv_own, sqn_nx, sqn_rt, sqn_rto, sqn_ex, sqn_bk, sqn_ct, lpn_nx, lpn_ct, lpn_rt, lpn_rto, lpn_ex, lpn_bk, lpc_t, lpc_f, lpc_exn, optn_some, sbi_ok, sbi_exn, cond_t, cond_f, tc_false, tc_true, tc_own, tc_exn, tcv_bl, tcv_int, tcv_non, tcv_lst, tcv_tup, look_z, look_s, conop_some, notop_bl, negop_int, evR_rt, evR_rto, evR_nx, evR_ex, okI_d, okB_d, evF, putL, putT, tup_ok, lst_ok, aug_i, aug_s, b_add, b_sub, b_mul, b_mull, b_mulr, b_div, b_divs, b_mod, b_pow, b_pows, b_shl, b_shls, b_shr, b_and, b_or, c_eq, c_ne, c_lt, c_le, c_gt, c_ge, c_isnot, c_is, l_min, l_max, l_len, l_lent, l_intb, x_t0, x_t1, x_t2, x_l0, x_l1, evi, List.map_cons, List.map_nil, List.length_cons, List.length_nil, List.cons_append, List.nil_append, List.replicate_succ, List.replicate_zero, Nat.reduceSub, Nat.reduceAdd, List.getElem?_cons_zero, List.getElem?_cons_succ, List.set_cons_zero, List.set_cons_succ, decide_true, decide_false, Bool.not_true, Bool.not_false, Nat.reduceLeDiff, Int.reduceLT, Int.reduceLE, Int.reduceEq, tn_nat, tn_add, tn_sub1, Int.one_mul, nc0, nc1, nc2, nc3, nc4, nc5, nc6, nc7, nc8, nc9, nc10, nc11, nc12, bndP, lcO, cln, wip, Tg.ix, evcs, bitlop, b_is_within, h1]; rfl
theorem withD_no {i lo hi : Int} (h : ¬ (lo ≤ i ∧ i ≤ hi)) : withD (.int i) lo hi = false := by
  show (decide (lo ≤ i) && decide (i ≤ hi)) = false
  by_cases h0 : lo ≤ i
  · rw [decide_eq_false (show ¬ i ≤ hi from fun z => h ⟨h0, z⟩), Bool.and_false]
  · rw [decide_eq_false h0, Bool.false_and]
def kn (e m : Nat) (z : Int) : Str := if z = 0 then "nought" else if z < 2 ^ m then "small" else if z < 2 ^ (e + m) - 2 ^ m then "plain" else if z = 2 ^ (e + m) - 2 ^ m then "end" else if z < 2 ^ (e + m) - 2 ^ m + 2 ^ (m - 1) then "loud" else "still"
theorem c_nes {x : Str} (h : PyData.strOk x = true) : cmpop .NotEq (.str x) (.str x) = .ok (.bl false) := by
  show (match deq (.str x) (.str x) with | some b => okB (!b) | none => .bad) = _
  have e : deq (.str x) (.str x) = some true := by
    show (if SeqAt.shaped (.str x) && SeqAt.shaped (.str x) then some (PyData.eqv (.str x) (.str x)) else none) = _
    simp [SeqAt.shaped, PyData.eqv, PyData.canLay0, PyData.depth, h]
  rw [e]; rfl
end Nf
set_option linter.all false
set_option maxRecDepth 100000
set_option autoImplicit false
set_option maxHeartbeats 4000000
namespace Nf
open PySem L2
theorem slc_lst {l : List D} {lo hi : Option Int} : slcop (.lst l) lo hi = .own (cutD l lo hi) := rfl
end Nf
set_option linter.all false
set_option maxRecDepth 100000
set_option autoImplicit false
set_option maxHeartbeats 4000000
namespace Nf
open PySem L2
def cutN (m : Nat) (v : Int) : Nat := Builtin.Int.intBits v - (m + 1)
def sb (m : Nat) (v : Int) : Int := (cutN m v : Int) * 2 ^ m + v / 2 ^ cutN m v
inductive Wy where
  | even | off | inn | up | down
  deriving DecidableEq
def wd : Wy → Str
  | .even => "even" | .off => "off" | .inn => "in" | .up => "up" | .down => "down"
def wcl : Wy → Str
  | .even => "Even" | .off => "Off" | .inn => "In" | .up => "Up" | .down => "Down"
def goes : Wy → Int → Bool → Int → Bool
  | .even, _, o, d => decide (d = 1) || (decide (d = 0) && o)
  | .off, _, _, d => decide (0 ≤ d)
  | .inn, _, _, _ => false
  | .up, s, _, _ => decide (s = 0)
  | .down, s, _, _ => decide (s = 1)
def ends : Wy → Int → Bool
  | .even, _ => true
  | .off, _ => true
  | .inn, _ => false
  | .up, s => decide (s = 0)
  | .down, s => decide (s = 1)
def gr (e m : Nat) : Nat := m + 2 ^ (e - 1) - 2
def Kz (e m : Nat) : Int := 2 ^ (e + m) - 2 ^ m
end Nf
set_option linter.all false
set_option maxRecDepth 100000
set_option autoImplicit false
set_option maxHeartbeats 4000000
namespace Nf
open PySem L2
structure Ways (G : Gm) : Prop where
  on : ∀ w, ∃ fe, G.mth (wcl w) "goes_on" = some fe ∧ ∀ (s : Int) (o : Bool) (d : Int), useFn (some fe) [.ins (wcl w), .int s, .bl o, .int d] = .ok (.bl (goes w s o d))
  en : ∀ w, ∃ fe, G.mth (wcl w) "ends" = some fe ∧ ∀ s : Int, useFn (some fe) [.ins (wcl w), .int s] = .ok (.bl (ends w s))
abbrev big (t : Int) : Prop := 0 ≤ t ∧ Builtin.Int.intBits t ≤ 40000000
end Nf
set_option linter.all false
set_option maxRecDepth 100000
set_option autoImplicit false
set_option maxHeartbeats 4000000
namespace Nf
open PySem L2
theorem fn {t : Tg} {b : En → SR} {s : En} : forL t b [] s = .nx s := rfl
theorem its_l {l : List D} : itemsOf (.lst l) = .ok l := rfl
theorem its_t {l : List D} : itemsOf (.tup l) = .ok l := rfl
theorem tn60 : (10 : Int) ^ (60 : Int).toNat = 1000000000000000000000000000000000000000000000000000000000000 := by decide
theorem cellI {u : List D → R} (hC : cCell u) (ns : List Int) (k : Int) (h : 0 ≤ k := by decide) : ∃ c : Int, u [.lst (ns.map D.int), .int k] = .ok (.int c) := by
  obtain ⟨c, e⟩ := hC ns k.toNat
  rw [Int.toNat_of_nonneg h] at e
  exact ⟨c, e⟩
end Nf
set_option linter.all false
set_option maxRecDepth 100000
set_option autoImplicit false
set_option maxHeartbeats 4000000
namespace Nf
open PySem L2
end Nf
set_option linter.all false
set_option maxRecDepth 100000
set_option autoImplicit false
set_option maxHeartbeats 4000000
namespace Nf
open PySem L2
def Num (e m : Nat) (b : Int) : Prop := 0 ≤ b ∧ b < 2 * 2 ^ (e + m) ∧ b % 2 ^ (e + m) < 2 ^ (e + m) - 2 ^ m
def un (e m : Nat) (b : Int) : Int := if b < 2 ^ (e + m) then ht m (b % 2 ^ (e + m)) else -ht m (b % 2 ^ (e + m))
theorem Num.two {e m : Nat} {b : Int} (r : Num e m b) : (b < 2 ^ (e + m) ∧ b % 2 ^ (e + m) = b ∧ b < 2 ^ (e + m) - 2 ^ m) ∨ (2 ^ (e + m) ≤ b ∧ b % 2 ^ (e + m) = b - 2 ^ (e + m) ∧ b < 2 ^ (e + m) + (2 ^ (e + m) - 2 ^ m)) := by
  obtain ⟨h0, h1, h2⟩ := r
  rcases two_of h0 h1 with ⟨a1, a2, a3⟩ | ⟨a1, a2, a3⟩
  · exact .inl ⟨a1, a3, by omega⟩
  · exact .inr ⟨a1, a3, by omega⟩
end Nf
set_option linter.all false
set_option maxRecDepth 100000
set_option autoImplicit false
set_option maxHeartbeats 4000000
namespace Nf
open PySem L2
end Nf
set_option linter.all false
set_option maxRecDepth 100000
set_option autoImplicit false
set_option maxHeartbeats 4000000
namespace Nf
open PySem L2
end Nf
set_option linter.all false
set_option maxRecDepth 100000
set_option autoImplicit false
set_option maxHeartbeats 4000000
namespace Nf
open PySem L2
def isLoud (e m : Nat) (z : Int) : Bool := decide (Kz e m < z) && decide (z < Kz e m + 2 ^ (m - 1))
end Nf
set_option linter.all false
set_option maxRecDepth 100000
set_option autoImplicit false
set_option maxHeartbeats 4000000
namespace Nf
open PySem L2
end Nf
set_option linter.all false
set_option maxRecDepth 100000
set_option autoImplicit false
set_option maxHeartbeats 4000000
namespace Nf
open PySem L2
theorem szl0 : (0 < sizeLine) = True := eq_true (by decide)
theorem szl1 : (1 < sizeLine) = True := eq_true (by decide)
theorem szl2 : (2 < sizeLine) = True := eq_true (by decide)
theorem szl3 : (3 < sizeLine) = True := eq_true (by decide)
theorem szl4 : (4 < sizeLine) = True := eq_true (by decide)
theorem szl5 : (5 < sizeLine) = True := eq_true (by decide)
theorem isNon_n : isNon .non = true := rfl
theorem isNon_tup {l : List D} : isNon (.tup l) = false := rfl
theorem isNon_int {i : Int} : isNon (.int i) = false := rfl
theorem isNon_str {x : Str} : isNon (.str x) = false := rfl
def Rw (e m : Nat) (b : Int) : Prop := 0 ≤ b ∧ b < 2 * 2 ^ (e + m)
def loud (e m : Nat) (b : Int) : Bool := isLoud e m (b % 2 ^ (e + m))
end Nf
set_option linter.all false
set_option maxRecDepth 100000
set_option autoImplicit false
set_option maxHeartbeats 4000000
set_option exponentiation.threshold 300
namespace Nf
open PySem L2
def Ok (e m : Nat) (b : Int) : Prop := Rw e m b ∧ b % 2 ^ (e + m) ≤ Kz e m
theorem both {e m : Nat} {a b : Int} (ha : Rw e m a) (hb : Rw e m b) : ∀ x ∈ [a, b], Rw e m x := fun x hx => by
  simp only [List.mem_cons, List.not_mem_nil, or_false] at hx
  rcases hx with rfl | rfl
  · exact ha
  · exact hb
end Nf
set_option linter.all false
set_option maxRecDepth 100000
set_option autoImplicit false
set_option maxHeartbeats 4000000
set_option exponentiation.threshold 300
namespace Nf
open PySem L2
def xr (s t : Int) : Int := if s = t then 0 else 1
end Nf
set_option linter.all false
set_option maxRecDepth 100000
set_option autoImplicit false
set_option maxHeartbeats 4000000
set_option exponentiation.threshold 300
namespace Nf
open PySem L2
end Nf
set_option linter.all false
set_option maxRecDepth 100000
set_option autoImplicit false
set_option maxHeartbeats 4000000
set_option exponentiation.threshold 300
namespace Nf
open PySem L2
end Nf
set_option linter.all false
set_option maxRecDepth 100000
set_option autoImplicit false
set_option maxHeartbeats 4000000
set_option exponentiation.threshold 300
namespace Nf
open PySem L2
end Nf
set_option linter.all false
set_option maxRecDepth 100000
set_option autoImplicit false
namespace Nf
open PySem L2
def b_l_due_k22_L1 : Ss := (.cons (.iff (.cmp .Eq (.bin .Mod (.var 0) (.ci 2)) (.ci 1)) (.cons (.app 1 (.var 2)) .nil) .nil) (.cons (.setv 0 (.bin .FloorDiv (.var 0) (.ci 2))) .nil))
def b_l_due_k22 : Ss := (.cons (.set 1 (.lst .nil)) (.cons (.for (.name 2) (.seq (.lst (.cons (.cs "near") (.cons (.cs "faint") (.cons (.cs "over") (.cons (.cs "void") (.cons (.cs "odd") .nil))))))) b_l_due_k22_L1) (.cons (.ret (.var 1)) .nil)))
def b_l_alike_k22_L1 : Ss := (.cons (.iff (.or (.not (.isi (.idx (.var 0) (.var 2)) ["str"])) (.cmp .NotEq (.idx (.var 0) (.var 2)) (.idx (.var 1) (.var 2)))) (.cons (.ret (.cb false)) .nil) .nil) .nil)
def b_l_alike_k22 : Ss := (.cons (.iff (.or (.not (.isi (.var 0) ["list"])) (.cmp .NotEq (.blt .len (.cons (.var 0) .nil)) (.blt .len (.cons (.var 1) .nil)))) (.cons (.ret (.cb false)) .nil) .nil) (.cons (.for (.name 2) (.rng1 (.blt .len (.cons (.var 1) .nil))) b_l_alike_k22_L1) (.cons (.ret (.cb true)) .nil)))
def b_l_refused_k22 : Ss := (.cons (.setv 1 .cn) (.cons (.try (.cons (.expr (.call "flag_words" (.cons (.var 0) .nil))) .nil) "FoldError" 2 1) (.cons (.setv 3 (.isi (.var 1) ["NoBits", "NoName", "NoNumber", "NoParts", "NoRow", "NoShape", "NoStep", "NoText"])) (.cons (.iff (.or (.var 3) (.isi (.var 1) ["NoWay", "NoWhole", "NoWord"])) (.cons (.ret (.cb false)) .nil) .nil) (.cons (.ret (.and (.isi (.var 1) ["NoFlags"]) (.isi (.var 1) ["ValueError"]))) .nil)))))
def b_law_k22 : Ss := (.cons (.setv 1 (.bin .Mod (.call "_law_cell" (.cons (.var 0) (.cons (.ci 0) .nil))) (.ci 32))) (.cons (.setv 2 (.bin .Mod (.call "_law_cell" (.cons (.var 0) (.cons (.ci 1) .nil))) (.bin .Pow (.ci 10) (.ci 60)))) (.cons (.setv 3 (.call "_law_due" (.cons (.var 1) .nil))) (.cons (.setv 4 (.call "flag_words" (.cons (.var 1) .nil))) (.cons (.iff (.not (.call "_law_alike" (.cons (.var 4) (.cons (.var 3) .nil)))) (.cons (.ret (.cb false)) .nil) .nil) (.cons (.setv 5 (.idx (.lst (.cons (.bin .Add (.ci 32) (.var 2)) (.cons (.bin .Sub (.neg (.ci 1)) (.var 2)) (.cons (.ci 32) (.cons (.neg (.ci 1)) (.cons (.cb true) (.cons (.cb false) (.cons .cn (.cons (.cs "near") (.cons (.cs "1") (.cons (.lst (.cons (.ci 1) .nil)) .nil))))))))))) (.bin .Mod (.call "_law_cell" (.cons (.var 0) (.cons (.ci 2) .nil))) (.ci 10)))) (.cons (.iff (.not (.call "_law_refused" (.cons (.var 5) .nil))) (.cons (.ret (.cb false)) .nil) .nil) (.cons (.set 6 (.call "flag_words" (.cons (.var 1) .nil))) (.cons (.app 6 (.cs "near")) (.cons (.ret (.and (.call "_law_alike" (.cons (.var 4) (.cons (.var 3) .nil))) (.call "_law_alike" (.cons (.call "flag_words" (.cons (.var 1) .nil)) (.cons (.var 3) .nil))))) .nil))))))))))
end Nf
set_option linter.all false
set_option maxRecDepth 100000
set_option autoImplicit false
set_option maxHeartbeats 4000000
namespace Nf
open PySem L2
theorem XT.any {G : Gm} {t : Str} (h : XT G t) : ∀ {cs : List Str}, (∀ c ∈ cs, c ∈ xcls) → isiAny G t cs = some (cs.any (isX t))
  | [], _ => rfl
  | c :: cs, hc => by
    have h1 := h c (hc c (List.mem_cons_self ..))
    have h2 := XT.any h (cs := cs) fun x hx => hc x (List.mem_cons_of_mem _ hx)
    show (match G.isi t c, isiAny G t cs with | some a, some b => some (a || b) | _, _ => none) = _
    rw [h1, h2]
    rfl
theorem XT.many {G : Gm} {t : Str} (h : XT G t) {cs : List Str} {b : Bool} (hc : ∀ c ∈ cs, c ∈ xcls) (hb : cs.any (isX t) = b) (l : List D) : isiop G cs (.exc t l) = .ok (.bl b) := by
  show (match isiAny G t cs with | some b => okB b | none => .bad) = _
  rw [h.any hc, hb]
  rfl
def fws (f : Int) : List Str := (if f % 2 = 1 then [("near" : Str)] else []) ++ ((if f / 2 % 2 = 1 then [("faint" : Str)] else []) ++ ((if f / 4 % 2 = 1 then [("over" : Str)] else []) ++ ((if f / 8 % 2 = 1 then [("void" : Str)] else []) ++ (if f / 16 % 2 = 1 then [("odd" : Str)] else []))))
def wordsD : D := .tup [.str "near", .str "faint", .str "over", .str "void", .str "odd"]
theorem fw_lc {G : Gm} (kW : G.con "WORDS" = some wordsD) {f : Int} (h0 : 0 ≤ f) (h1 : f < 32) : evm G (.lc (.tup [1, 2]) (.enm (.glob "WORDS")) (.cons (.bin .BitAnd (.bin .RShift (.var 0) (.var 1)) (.ci 1)) .nil) (.var 2)) false [.val (.int f), .no, .no] = .own ((fws f).map D.str) := by
  have e : evi G (.enm (.glob "WORDS")) [.val (.int f), .no, .no] = .ok [.tup [.int 0, .str "near"], .tup [.int 1, .str "faint"], .tup [.int 2, .str "over"], .tup [.int 3, .str "void"], .tup [.int 4, .str "odd"]] := by
    show bndI (conop (G.con "WORDS")) enmOf = _
    rw [kW]; rfl
  show bndL (evi G (.enm (.glob "WORDS")) [.val (.int f), .no, .no]) _ = _
  rw [e]
  have : f = 0 ∨ f = 1 ∨ f = 2 ∨ f = 3 ∨ f = 4 ∨ f = 5 ∨ f = 6 ∨ f = 7 ∨ f = 8 ∨ f = 9 ∨ f = 10 ∨ f = 11 ∨ f = 12 ∨ f = 13 ∨ f = 14 ∨ f = 15 ∨ f = 16 ∨ f = 17 ∨ f = 18 ∨ f = 19 ∨ f = 20 ∨ f = 21 ∨ f = 22 ∨ f = 23 ∨ f = 24 ∨ f = 25 ∨ f = 26 ∨ f = 27 ∨ f = 28 ∨ f = 29 ∨ f = 30 ∨ f = 31 := by omega
  clear h0 h1 e
  rcases this with rfl | rfl | rfl | rfl | rfl | rfl | rfl | rfl | rfl | rfl | rfl | rfl | rfl | rfl | rfl | rfl | rfl | rfl | rfl | rfl | rfl | rfl | rfl | rfl | rfl | rfl | rfl | rfl | rfl | rfl | rfl | rfl <;> first | rfl | kernel_rfl
abbrev cFW (u : List D → R) : Prop := (∀ f : Int, 0 ≤ f → f < 32 → u [.int f] = .own ((fws f).map D.str)) ∧ ∀ x, plainD x → withD x 0 31 = false → ∃ l, u [x] = .exn (.exc "NoFlags" l)
theorem flag_words_ev {G : Gm} (hW : cWithin (useFn (G.fn "is_within"))) (k1 : G.con "NEAR" = some (.int 1)) (k2 : G.con "FAINT" = some (.int 2)) (k3 : G.con "OVER" = some (.int 4)) (k4 : G.con "VOID" = some (.int 8)) (k5 : G.con "ODD" = some (.int 16)) (kW : G.con "WORDS" = some wordsD) : cFW (evN G 1 ⟨3, b_flag_words⟩) := by
  have o1 : binop .BitOr (.int 1) (.int 2) = .ok (.int 3) := rfl
  have o2 : binop .BitOr (.int 3) (.int 4) = .ok (.int 7) := rfl
  have o3 : binop .BitOr (.int 7) (.int 8) = .ok (.int 15) := rfl
  have o4 : binop .BitOr (.int 15) (.int 16) = .ok (.int 31) := rfl
  refine ⟨fun f h0 h1 => ?_, fun x hx hw => ?_⟩
  · have w := hW (.int f) 0 31 trivial
    rw [show withD (.int f) 0 31 = true by show (decide (0 ≤ f) && decide (f ≤ 31)) = true; rw [decide_eq_true h0, decide_eq_true (by omega)]; rfl] at w
    have q := fw_lc kW h0 h1
    generalize eE : (E.lc (.tup [1, 2]) (.enm (.glob "WORDS")) (.cons (.bin .BitAnd (.bin .RShift (.var 0) (.var 1)) (.ci 1)) .nil) (.var 2)) = e at q
    unfold b_flag_words
    rw [eE]
    simp (disch := first | assumption | omega | exact Nat.le_of_ble_eq_true rfl) only [evN, eq_self, ↓reduceIte, exop_0, exop_1, tryn_nx, evm, evs, exs, exe, bnd_ok, bnd_own, bnd_exn, bndL_ok, bndL_exn, bndI_ok, bndI_own, bndI_exn, consL_ok, consL_exn, sbn_ok, sbn_own, sbn_exn, stn_ok, stn_own, stn_exn, rtn_ok, rtn_own, rtn_exn, rtv_val, rtv_own, sqn_nx, sqn_rt, sqn_rto, sqn_ex, sqn_bk, sqn_ct, lpn_nx, lpn_ct, lpn_rt, lpn_rto, lpn_ex, lpn_bk, lpc_t, lpc_f, lpc_exn, optn_some, sbi_ok, sbi_exn, cond_t, cond_f, tc_false, tc_true, tc_own, tc_exn, tcv_bl, tcv_int, tcv_non, tcv_lst, tcv_tup, look_z, look_s, conop_some, notop_bl, negop_int, evR_rt, evR_rto, evR_nx, evR_ex, okI_d, okB_d, evF, putL, putT, tup_ok, lst_ok, aug_i, aug_s, b_add, b_sub, b_mul, b_mull, b_mulr, b_div, b_divs, b_mod, b_pow, b_pows, b_shl, b_shls, b_shr, b_and, b_or, c_eq, c_ne, c_lt, c_le, c_gt, c_ge, c_isnot, c_is, l_min, l_max, l_len, l_lent, l_intb, x_t0, x_t1, x_t2, x_l0, x_l1, evi, List.map_cons, List.map_nil, List.length_cons, List.length_nil, List.cons_append, List.nil_append, List.replicate_succ, List.replicate_zero, Nat.reduceSub, Nat.reduceAdd, List.getElem?_cons_zero, List.getElem?_cons_succ, List.set_cons_zero, List.set_cons_succ, decide_true, decide_false, Bool.not_true, Bool.not_false, Nat.reduceLeDiff, Int.reduceLT, Int.reduceLE, Int.reduceEq, tn_nat, tn_add, tn_sub1, Int.one_mul, nc0, nc1, nc2, nc3, nc4, nc5, nc6, nc7, nc8, nc9, nc10, nc11, nc12, bndP, lcO, cln, wip, Tg.ix, evcs, bitlop, its_l, its_t, List.isEmpty_cons, List.isEmpty_nil, cntX, slc_lst, isNon_n, isNon_tup, isNon_int, isNon_str, szl0, szl1, szl2, szl3, szl4, szl5, k1, k2, k3, k4, k5, o1, o2, o3, o4, w]
    subst eE
    show evR (sqn (rtn [.val (.int f), .no, .no] (evm G _ false [.val (.int f), .no, .no])) SR.nx) = _
    rw [q]; rfl
  · have w := hW x 0 31 hx
    rw [hw] at w
    exact ⟨_, by simp (disch := first | assumption | omega | exact Nat.le_of_ble_eq_true rfl) only [evN, eq_self, ↓reduceIte, exop_0, exop_1, tryn_nx, evm, evs, exs, exe, bnd_ok, bnd_own, bnd_exn, bndL_ok, bndL_exn, bndI_ok, bndI_own, bndI_exn, consL_ok, consL_exn, sbn_ok, sbn_own, sbn_exn, stn_ok, stn_own, stn_exn, rtn_ok, rtn_own, rtn_exn, rtv_val, rtv_own, sqn_nx, sqn_rt, sqn_rto, sqn_ex, sqn_bk, sqn_ct, lpn_nx, lpn_ct, lpn_rt, lpn_rto, lpn_ex, lpn_bk, lpc_t, lpc_f, lpc_exn, optn_some, sbi_ok, sbi_exn, cond_t, cond_f, tc_false, tc_true, tc_own, tc_exn, tcv_bl, tcv_int, tcv_non, tcv_lst, tcv_tup, look_z, look_s, conop_some, notop_bl, negop_int, evR_rt, evR_rto, evR_nx, evR_ex, okI_d, okB_d, evF, putL, putT, tup_ok, lst_ok, aug_i, aug_s, b_add, b_sub, b_mul, b_mull, b_mulr, b_div, b_divs, b_mod, b_pow, b_pows, b_shl, b_shls, b_shr, b_and, b_or, c_eq, c_ne, c_lt, c_le, c_gt, c_ge, c_isnot, c_is, l_min, l_max, l_len, l_lent, l_intb, x_t0, x_t1, x_t2, x_l0, x_l1, evi, List.map_cons, List.map_nil, List.length_cons, List.length_nil, List.cons_append, List.nil_append, List.replicate_succ, List.replicate_zero, Nat.reduceSub, Nat.reduceAdd, List.getElem?_cons_zero, List.getElem?_cons_succ, List.set_cons_zero, List.set_cons_succ, decide_true, decide_false, Bool.not_true, Bool.not_false, Nat.reduceLeDiff, Int.reduceLT, Int.reduceLE, Int.reduceEq, tn_nat, tn_add, tn_sub1, Int.one_mul, nc0, nc1, nc2, nc3, nc4, nc5, nc6, nc7, nc8, nc9, nc10, nc11, nc12, bndP, lcO, cln, wip, Tg.ix, evcs, bitlop, its_l, its_t, List.isEmpty_cons, List.isEmpty_nil, cntX, slc_lst, isNon_n, isNon_tup, isNon_int, isNon_str, szl0, szl1, szl2, szl3, szl4, szl5, b_flag_words, k1, k2, k3, k4, k5, o1, o2, o3, o4, w] <;> rfl⟩
abbrev cDue22 (u : List D → R) : Prop := ∀ f : Int, 0 ≤ f → f < 32 → u [.int f] = .own ((fws f).map D.str)
theorem l_due22 {G : Gm} : cDue22 (evN G 1 ⟨3, b_l_due_k22⟩) := by
  intro f h0 h1
  have : f = 0 ∨ f = 1 ∨ f = 2 ∨ f = 3 ∨ f = 4 ∨ f = 5 ∨ f = 6 ∨ f = 7 ∨ f = 8 ∨ f = 9 ∨ f = 10 ∨ f = 11 ∨ f = 12 ∨ f = 13 ∨ f = 14 ∨ f = 15 ∨ f = 16 ∨ f = 17 ∨ f = 18 ∨ f = 19 ∨ f = 20 ∨ f = 21 ∨ f = 22 ∨ f = 23 ∨ f = 24 ∨ f = 25 ∨ f = 26 ∨ f = 27 ∨ f = 28 ∨ f = 29 ∨ f = 30 ∨ f = 31 := by omega
  clear h0 h1
  rcases this with rfl | rfl | rfl | rfl | rfl | rfl | rfl | rfl | rfl | rfl | rfl | rfl | rfl | rfl | rfl | rfl | rfl | rfl | rfl | rfl | rfl | rfl | rfl | rfl | rfl | rfl | rfl | rfl | rfl | rfl | rfl | rfl <;> first | rfl | kernel_rfl
theorem fws_len {f : Int} : (fws f).length ≤ 5 := by
  unfold fws
  split <;> split <;> split <;> split <;> split <;> decide
theorem fws_ok {f : Int} : ∀ x ∈ fws f, PyData.strOk x = true := by
  unfold fws
  split <;> split <;> split <;> split <;> split <;> decide +kernel
abbrev cAl22 (u : List D → R) : Prop := ∀ l : List Str, l.length ≤ 5 → (∀ x ∈ l, PyData.strOk x = true) → u [.lst (l.map D.str), .lst (l.map D.str)] = .ok (.bl true)
theorem l_alike22 {G : Gm} (hI : Isi G) : cAl22 (evN G 2 ⟨3, b_l_alike_k22⟩) := by
  intro l hl hk
  have il : isiop G ["list"] (.lst (l.map D.str)) = .ok (.bl true) := isi_bb hI (by show isiB "list" "list" = _; decide +kernel)
  have ls : bltop .len [.lst (l.map D.str)] = .ok (.int l.length) := by
    show okI _ = _
    rw [List.length_map]; rfl
  have rg : rng1op (.int (l.length : Nat)) = .ok (rngL 0 l.length) := by
    rw [rng1_ok (by omega) (by omega)]; rfl
  let J : En → Prop := fun s => ∃ a, s = [.val (.lst (l.map D.str)), .val (.lst (l.map D.str)), a]
  have loop : ∀ s, J s → ∃ s', forL (.name 2) (exs G b_l_alike_k22_L1) (rngL 0 l.length) s = .nx s' ∧ J s' := by
    intro s hs
    refine for_all J hs fun x hx s ⟨a, es⟩ => ?_
    subst es
    obtain ⟨k, rfl, k0, k1⟩ := mem_rng hx
    obtain ⟨n, rfl⟩ := Int.eq_ofNat_of_zero_le k0
    have hn : n < l.length := by omega
    have ix : idxop (.lst (l.map D.str)) (.int (n : Nat)) = .ok (.str l[n]) := x_lst (by omega) (by rw [Int.toNat_natCast, List.getElem?_map, List.getElem?_eq_getElem hn]; rfl)
    have is : isiop G ["str"] (.str l[n]) = .ok (.bl true) := isi_bb hI (by show isiB "str" "str" = _; decide +kernel)
    have ne := c_nes (hk l[n] (List.getElem_mem hn))
    refine ⟨_, [.val (.lst (l.map D.str)), .val (.lst (l.map D.str)), .val (.int (n : Nat))], rfl, .inl ?_, ⟨_, rfl⟩⟩
    simp (disch := first | assumption | omega | exact Nat.le_of_ble_eq_true rfl) only [evN, eq_self, ↓reduceIte, exop_0, exop_1, tryn_nx, evm, evs, exs, exe, bnd_ok, bnd_own, bnd_exn, bndL_ok, bndL_exn, bndI_ok, bndI_own, bndI_exn, consL_ok, consL_exn, sbn_ok, sbn_own, sbn_exn, stn_ok, stn_own, stn_exn, rtn_ok, rtn_own, rtn_exn, rtv_val, rtv_own, sqn_nx, sqn_rt, sqn_rto, sqn_ex, sqn_bk, sqn_ct, lpn_nx, lpn_ct, lpn_rt, lpn_rto, lpn_ex, lpn_bk, lpc_t, lpc_f, lpc_exn, optn_some, sbi_ok, sbi_exn, cond_t, cond_f, tc_false, tc_true, tc_own, tc_exn, tcv_bl, tcv_int, tcv_non, tcv_lst, tcv_tup, look_z, look_s, conop_some, notop_bl, negop_int, evR_rt, evR_rto, evR_nx, evR_ex, okI_d, okB_d, evF, putL, putT, tup_ok, lst_ok, aug_i, aug_s, b_add, b_sub, b_mul, b_mull, b_mulr, b_div, b_divs, b_mod, b_pow, b_pows, b_shl, b_shls, b_shr, b_and, b_or, c_eq, c_ne, c_lt, c_le, c_gt, c_ge, c_isnot, c_is, l_min, l_max, l_len, l_lent, l_intb, x_t0, x_t1, x_t2, x_l0, x_l1, evi, List.map_cons, List.map_nil, List.length_cons, List.length_nil, List.cons_append, List.nil_append, List.replicate_succ, List.replicate_zero, Nat.reduceSub, Nat.reduceAdd, List.getElem?_cons_zero, List.getElem?_cons_succ, List.set_cons_zero, List.set_cons_succ, decide_true, decide_false, Bool.not_true, Bool.not_false, Nat.reduceLeDiff, Int.reduceLT, Int.reduceLE, Int.reduceEq, tn_nat, tn_add, tn_sub1, Int.one_mul, nc0, nc1, nc2, nc3, nc4, nc5, nc6, nc7, nc8, nc9, nc10, nc11, nc12, bndP, lcO, cln, wip, Tg.ix, evcs, bitlop, its_l, its_t, List.isEmpty_cons, List.isEmpty_nil, cntX, slc_lst, isNon_n, isNon_tup, isNon_int, isNon_str, szl0, szl1, szl2, szl3, szl4, szl5, b_l_alike_k22_L1, ix, is, ne]
  obtain ⟨s', e1, a, e2⟩ := loop [.val (.lst (l.map D.str)), .val (.lst (l.map D.str)), .no] ⟨_, rfl⟩
  rw [e2] at e1
  simp (disch := first | assumption | omega | exact Nat.le_of_ble_eq_true rfl) only [evN, eq_self, ↓reduceIte, exop_0, exop_1, tryn_nx, evm, evs, exs, exe, bnd_ok, bnd_own, bnd_exn, bndL_ok, bndL_exn, bndI_ok, bndI_own, bndI_exn, consL_ok, consL_exn, sbn_ok, sbn_own, sbn_exn, stn_ok, stn_own, stn_exn, rtn_ok, rtn_own, rtn_exn, rtv_val, rtv_own, sqn_nx, sqn_rt, sqn_rto, sqn_ex, sqn_bk, sqn_ct, lpn_nx, lpn_ct, lpn_rt, lpn_rto, lpn_ex, lpn_bk, lpc_t, lpc_f, lpc_exn, optn_some, sbi_ok, sbi_exn, cond_t, cond_f, tc_false, tc_true, tc_own, tc_exn, tcv_bl, tcv_int, tcv_non, tcv_lst, tcv_tup, look_z, look_s, conop_some, notop_bl, negop_int, evR_rt, evR_rto, evR_nx, evR_ex, okI_d, okB_d, evF, putL, putT, tup_ok, lst_ok, aug_i, aug_s, b_add, b_sub, b_mul, b_mull, b_mulr, b_div, b_divs, b_mod, b_pow, b_pows, b_shl, b_shls, b_shr, b_and, b_or, c_eq, c_ne, c_lt, c_le, c_gt, c_ge, c_isnot, c_is, l_min, l_max, l_len, l_lent, l_intb, x_t0, x_t1, x_t2, x_l0, x_l1, evi, List.map_cons, List.map_nil, List.length_cons, List.length_nil, List.cons_append, List.nil_append, List.replicate_succ, List.replicate_zero, Nat.reduceSub, Nat.reduceAdd, List.getElem?_cons_zero, List.getElem?_cons_succ, List.set_cons_zero, List.set_cons_succ, decide_true, decide_false, Bool.not_true, Bool.not_false, Nat.reduceLeDiff, Int.reduceLT, Int.reduceLE, Int.reduceEq, tn_nat, tn_add, tn_sub1, Int.one_mul, nc0, nc1, nc2, nc3, nc4, nc5, nc6, nc7, nc8, nc9, nc10, nc11, nc12, bndP, lcO, cln, wip, Tg.ix, evcs, bitlop, its_l, its_t, List.isEmpty_cons, List.isEmpty_nil, cntX, slc_lst, isNon_n, isNon_tup, isNon_int, isNon_str, szl0, szl1, szl2, szl3, szl4, szl5, b_l_alike_k22, il, ls, rg, e1]
abbrev cRef22 (u : List D → R) : Prop := ∀ x, plainD x → withD x 0 31 = false → u [x] = .ok (.bl true)
theorem l_refused22 {G : Gm} (hx : XT G "NoFlags") (hF : cFW (useFn (G.fn "flag_words"))) : cRef22 (evN G 1 ⟨4, b_l_refused_k22⟩) := by
  intro x hp hw
  obtain ⟨l, u⟩ := hF.2 x hp hw
  have ht := fun (s : En) (l : List D) => hx.try (by decide +kernel) (i := 2) (j := 1) (s := s) (l := l)
  have f1 := hx.many (cs := ["NoBits", "NoName", "NoNumber", "NoParts", "NoRow", "NoShape", "NoStep", "NoText"]) (b := false) (by decide +kernel) (by decide +kernel)
  have f2 := hx.many (cs := ["NoWay", "NoWhole", "NoWord"]) (b := false) (by decide +kernel) (by decide +kernel)
  have f3 := hx.isi (c := "NoFlags") (b := true) (by decide +kernel) (by decide +kernel)
  have f4 := hx.isi (c := "ValueError") (b := true) (by decide +kernel) (by decide +kernel)
  simp (disch := first | assumption | omega | exact Nat.le_of_ble_eq_true rfl) only [evN, eq_self, ↓reduceIte, exop_0, exop_1, tryn_nx, evm, evs, exs, exe, bnd_ok, bnd_own, bnd_exn, bndL_ok, bndL_exn, bndI_ok, bndI_own, bndI_exn, consL_ok, consL_exn, sbn_ok, sbn_own, sbn_exn, stn_ok, stn_own, stn_exn, rtn_ok, rtn_own, rtn_exn, rtv_val, rtv_own, sqn_nx, sqn_rt, sqn_rto, sqn_ex, sqn_bk, sqn_ct, lpn_nx, lpn_ct, lpn_rt, lpn_rto, lpn_ex, lpn_bk, lpc_t, lpc_f, lpc_exn, optn_some, sbi_ok, sbi_exn, cond_t, cond_f, tc_false, tc_true, tc_own, tc_exn, tcv_bl, tcv_int, tcv_non, tcv_lst, tcv_tup, look_z, look_s, conop_some, notop_bl, negop_int, evR_rt, evR_rto, evR_nx, evR_ex, okI_d, okB_d, evF, putL, putT, tup_ok, lst_ok, aug_i, aug_s, b_add, b_sub, b_mul, b_mull, b_mulr, b_div, b_divs, b_mod, b_pow, b_pows, b_shl, b_shls, b_shr, b_and, b_or, c_eq, c_ne, c_lt, c_le, c_gt, c_ge, c_isnot, c_is, l_min, l_max, l_len, l_lent, l_intb, x_t0, x_t1, x_t2, x_l0, x_l1, evi, List.map_cons, List.map_nil, List.length_cons, List.length_nil, List.cons_append, List.nil_append, List.replicate_succ, List.replicate_zero, Nat.reduceSub, Nat.reduceAdd, List.getElem?_cons_zero, List.getElem?_cons_succ, List.set_cons_zero, List.set_cons_succ, decide_true, decide_false, Bool.not_true, Bool.not_false, Nat.reduceLeDiff, Int.reduceLT, Int.reduceLE, Int.reduceEq, tn_nat, tn_add, tn_sub1, Int.one_mul, nc0, nc1, nc2, nc3, nc4, nc5, nc6, nc7, nc8, nc9, nc10, nc11, nc12, bndP, lcO, cln, wip, Tg.ix, evcs, bitlop, its_l, its_t, List.isEmpty_cons, List.isEmpty_nil, cntX, slc_lst, isNon_n, isNon_tup, isNon_int, isNon_str, szl0, szl1, szl2, szl3, szl4, szl5, b_l_refused_k22, u, ht, f1, f2, f3, f4]
theorem law22 {G : Gm} (hC : cCell (useFn (G.fn "_law_cell"))) (hD : cDue22 (useFn (G.fn "_law_due"))) (hF : cFW (useFn (G.fn "flag_words"))) (hA : cAl22 (useFn (G.fn "_law_alike"))) (hR : cRef22 (useFn (G.fn "_law_refused"))) {ns : List Int} (hl : ns.length ≤ 63) :
    evN G 1 ⟨7, b_law_k22⟩ [.lst (ns.map D.int)] = .ok (.bl true) := by
  obtain ⟨c0, ec0⟩ := cellI hC ns 0
  obtain ⟨c1, ec1⟩ := cellI hC ns 1
  obtain ⟨c2, ec2⟩ := cellI hC ns 2
  have g0 : 0 ≤ c0 % 32 := by omega
  have g1 : c0 % 32 < 32 := by omega
  generalize ef : c0 % 32 = f at *
  have f0 := Int.emod_nonneg c1 (show (1000000000000000000000000000000000000000000000000000000000000 : Int) ≠ 0 by decide)
  generalize eg : c1 % 1000000000000000000000000000000000000000000000000000000000000 = g at *
  have d := hD f g0 g1
  have w := hF.1 f g0 g1
  have a := hA (fws f) fws_len fws_ok
  have lz : ((fws f).map D.str).length < sizeLine := by
    rw [List.length_map]
    exact Nat.lt_of_le_of_lt fws_len (by decide)
  have key : ∀ x : D, idxop (.lst [.int (32 + g), .int (-1 - g), .int 32, .int (-1), .bl true, .bl false, .non, .str "near", .str "1", .lst [.int 1]]) (.int (c2 % 10)) = .ok x → plainD x → withD x 0 31 = false → evN G 1 ⟨7, b_law_k22⟩ [.lst (ns.map D.int)] = .ok (.bl true) := by
    intro x ix hp hw
    have r := hR x hp hw
    simp (disch := first | assumption | omega | exact Nat.le_of_ble_eq_true rfl) only [evN, eq_self, ↓reduceIte, exop_0, exop_1, tryn_nx, evm, evs, exs, exe, bnd_ok, bnd_own, bnd_exn, bndL_ok, bndL_exn, bndI_ok, bndI_own, bndI_exn, consL_ok, consL_exn, sbn_ok, sbn_own, sbn_exn, stn_ok, stn_own, stn_exn, rtn_ok, rtn_own, rtn_exn, rtv_val, rtv_own, sqn_nx, sqn_rt, sqn_rto, sqn_ex, sqn_bk, sqn_ct, lpn_nx, lpn_ct, lpn_rt, lpn_rto, lpn_ex, lpn_bk, lpc_t, lpc_f, lpc_exn, optn_some, sbi_ok, sbi_exn, cond_t, cond_f, tc_false, tc_true, tc_own, tc_exn, tcv_bl, tcv_int, tcv_non, tcv_lst, tcv_tup, look_z, look_s, conop_some, notop_bl, negop_int, evR_rt, evR_rto, evR_nx, evR_ex, okI_d, okB_d, evF, putL, putT, tup_ok, lst_ok, aug_i, aug_s, b_add, b_sub, b_mul, b_mull, b_mulr, b_div, b_divs, b_mod, b_pow, b_pows, b_shl, b_shls, b_shr, b_and, b_or, c_eq, c_ne, c_lt, c_le, c_gt, c_ge, c_isnot, c_is, l_min, l_max, l_len, l_lent, l_intb, x_t0, x_t1, x_t2, x_l0, x_l1, evi, List.map_cons, List.map_nil, List.length_cons, List.length_nil, List.cons_append, List.nil_append, List.replicate_succ, List.replicate_zero, Nat.reduceSub, Nat.reduceAdd, List.getElem?_cons_zero, List.getElem?_cons_succ, List.set_cons_zero, List.set_cons_succ, decide_true, decide_false, Bool.not_true, Bool.not_false, Nat.reduceLeDiff, Int.reduceLT, Int.reduceLE, Int.reduceEq, tn_nat, tn_add, tn_sub1, Int.one_mul, nc0, nc1, nc2, nc3, nc4, nc5, nc6, nc7, nc8, nc9, nc10, nc11, nc12, bndP, lcO, cln, wip, Tg.ix, evcs, bitlop, its_l, its_t, List.isEmpty_cons, List.isEmpty_nil, cntX, slc_lst, isNon_n, isNon_tup, isNon_int, isNon_str, szl0, szl1, szl2, szl3, szl4, szl5, b_law_k22, ec0, ec1, ec2, ef, eg, tn60, d, w, a, ix, r, if_pos lz]
  have h10 : c2 % 10 = 0 ∨ c2 % 10 = 1 ∨ c2 % 10 = 2 ∨ c2 % 10 = 3 ∨ c2 % 10 = 4 ∨ c2 % 10 = 5 ∨ c2 % 10 = 6 ∨ c2 % 10 = 7 ∨ c2 % 10 = 8 ∨ c2 % 10 = 9 := by omega
  rcases h10 with z | z | z | z | z | z | z | z | z | z
  · exact key (.int (32 + g)) (by rw [z]; exact x_lst (by decide) rfl) trivial (withD_no (by omega))
  · exact key (.int (-1 - g)) (by rw [z]; exact x_lst (by decide) rfl) trivial (withD_no (by omega))
  · exact key (.int 32) (by rw [z]; exact x_lst (by decide) rfl) trivial rfl
  · exact key (.int (-1)) (by rw [z]; exact x_lst (by decide) rfl) trivial rfl
  · exact key (.bl true) (by rw [z]; exact x_lst (by decide) rfl) trivial rfl
  · exact key (.bl false) (by rw [z]; exact x_lst (by decide) rfl) trivial rfl
  · exact key .non (by rw [z]; exact x_lst (by decide) rfl) trivial rfl
  · exact key (.str "near") (by rw [z]; exact x_lst (by decide) rfl) trivial rfl
  · exact key (.str "1") (by rw [z]; exact x_lst (by decide) rfl) trivial rfl
  · exact key (.lst [.int 1]) (by rw [z]; exact x_lst (by decide) rfl) trivial rfl
end Nf
set_option linter.all false
set_option maxRecDepth 100000
set_option autoImplicit false
set_option maxHeartbeats 4000000
namespace Nf
open PySem L2 PySem.Spec PyProof.Rows
def mkG (G0 : Gm) (l : List Ent) : Gm := { G0 with fn := fun f => (l.find? fun e => e.name == f).map (·.fe), kw := fun f => match l.find? fun e => e.name == f with
  | some e => e.kw
  | none => fun _ => 0 }
section
variable {Pr : Program} {w : World} {K : PySem.W.Frag} {mg : Str → Option Value} {base : Heap}
structure EntAt (K : PySem.W.Frag) (mg : Str → Option Value) (T : Addr → Prop) (e : Ent) (a : Addr) (fd : FuncData) : Prop where
  at' : FnAt K T e a fd
  nm : mg e.name = some (.ref a)
  df : DfOk K mg fd e.ps e.fe.dv
  kw : KwAll K e.kw e.fe.np fd e.ps
structure EntSt (G0 : Gm) (r : List Ent) (e : Ent) : Prop where
  lv : (∀ ds, e.fe.phi ds = .bad) ∨ (FnScope e.N e.ps (defScope e.st) ∧ ∀ n, mSs e.gz { mkG G0 r with fuel := n } e.N (defScope e.st) true e.body (defBody e.st) = true)
  np : e.fe.np = e.ps.length
  phi : ∀ ds, ds.length = e.ps.length → e.fe.phi ds = .bad ∨ ∃ n, evF { mkG G0 r with fuel := n } ⟨e.N.length, e.body⟩ ds = e.fe.phi ds
def AllSt (G0 : Gm) (K : PySem.W.Frag) (mg : Str → Option Value) (T : Addr → Prop) : List Ent → Prop
  | [] => True
  | e :: r => (EntSt G0 r e ∧ ∃ a fd, EntAt K mg T e a fd) ∧ AllSt G0 K mg T r
theorem Wok.like {G G' : Gm} (h : Wok K mg G) (e1 : G'.con = G.con) (e2 : G'.isi = G.isi) (e3 : G'.exc = G.exc) (e4 : G'.new = G.new) : Wok K mg G' :=
  ⟨by rw [e1]; exact h.con, h.blt, h.isi0, h.lst0, h.range, h.enm, h.any0, h.sum0, h.rev0, by rw [e2]; exact h.isi, h.tyF, by rw [e4]; exact h.new, by rw [e3]; exact h.exc, by rw [e2]; exact h.exm, by rw [e2]; exact h.kit⟩
theorem ent_ok {G0 : Gm} {r : List Ent} {e : Ent} {a : Addr} {fd : FuncData} {k : Nat} {T : Addr → Prop} (wd : Wok K mg G0) (st : EntSt G0 r e) (at' : FnAt K T e a fd) (fns : FnsOk Pr w K mg base T k (mkG G0 r)) (bi : ∃ bm, BiB base mg bm) :
    FnOk Pr w K mg base (CXm Pr w) (k + 2) a fd e.ps (spM K mg T e.fe.np e.fe.phi) := by
  rcases st.lv with hb | ⟨sc, hm⟩
  · -- what never runs promises nothing
    have no : ∀ vs H Q E, spM K mg T e.fe.np e.fe.phi vs H Q E → False := fun vs H Q E ⟨F, ds, _, _, _, _, q⟩ => by
      rw [hb ds] at q
      exact q
    exact ⟨fun vs H Q E q => (no vs H Q E q).elim, fun A outer s H args us vs Q E _ _ _ _ q => (no vs H Q E q).elim⟩
  · rw [st.np]
    refine fn_phi (g := fun n => evF { mkG G0 r with fuel := n } ⟨e.N.length, e.body⟩) (fun n => ?_) st.phi
    exact fn_ok at' sc (wd.like rfl rfl rfl rfl) ⟨fns.fn, fns.mth⟩ (fun _ => bi) (hm n)
structure MthAt (G0 : Gm) (K : PySem.W.Frag) (mg : Str → Option Value) (T : Addr → Prop) (c m : Str) (e : Ent) : Prop where
  st : EntSt { G0 with mth := fun _ _ => none } [] e
  ex : ∃ C f fd, mg c = some (.ref C) ∧ Cls K C ∧ Meth K C m f ∧ FnAt K T e f fd ∧ DfOk K mg fd e.ps e.fe.dv
def MthsOk (G0 : Gm) (K : PySem.W.Frag) (mg : Str → Option Value) (T : Addr → Prop) : Prop := ∀ c m fe, G0.mth c m = some fe → ∃ e, e.fe = fe ∧ MthAt G0 K mg T c m e
theorem tab_ok {G0 : Gm} {T : Addr → Prop} (wd : Wok K mg G0) (ms : MthsOk G0 K mg T) (bi : ∃ bm, BiB base mg bm) : ∀ {l : List Ent}, AllSt G0 K mg T l → FnsOk Pr w K mg base T (2 * l.length + 2) (mkG G0 l)
  | [], _ => ⟨fun f fe h => (by cases h), fun c m fe h => by
    obtain ⟨e, rfl, ⟨st, C, f, fd, m1, c1, c2, at', df⟩⟩ := ms c m fe h
    exact ⟨C, f, fd, e.ps, m1, c1, c2, ent_ok (G0 := { G0 with mth := fun _ _ => none }) (wd.like rfl rfl rfl rfl) st at' ⟨fun f fe h => (by cases h), fun c m fe h => (by cases h)⟩ bi, df⟩⟩
  | e :: r, h => by
    obtain ⟨⟨h1, a, fd, h2⟩, h3⟩ := h
    have ih := tab_ok wd ms bi h3
    refine ⟨fun f fe hf => ?_, fun c m fe h => ?_⟩
    · have hf : (List.find? (fun e => e.name == f) (e :: r)).map (·.fe) = some fe := hf
      have hk : (mkG G0 (e :: r)).kw f = match List.find? (fun e => e.name == f) (e :: r) with
        | some e => e.kw
        | none => fun _ => 0 := rfl
      rw [hk]
      rw [List.find?_cons] at hf ⊢
      cases hn : e.name == f with
      | true =>
        rw [hn] at hf
        have hf : some e.fe = some fe := hf
        cases hf
        have en : e.name = f := beq_iff_eq.mp hn
        subst en
        exact ⟨a, fd, e.ps, h2.nm, h2.at'.kp, ent_ok wd h1 h2.at' ih bi, h2.df, h2.kw⟩
      | false =>
        rw [hn] at hf
        obtain ⟨a', fd', ps', m', kp', F', df', kw'⟩ := ih.fn f fe hf
        exact ⟨a', fd', ps', m', kp', F'.mono (by simp only [List.length_cons]; omega), df', kw'⟩
    · obtain ⟨C, f, fd, ps, m1, c1, c2, F', df⟩ := ih.mth c m fe h
      exact ⟨C, f, fd, ps, m1, c1, c2, F'.mono (by simp only [List.length_cons]; omega), df⟩
theorem ent_mk {T : Addr → Prop} {e : Ent} {h : Heap} {a : Addr} {oc : Value} {od an : Option Addr} {osl : Array (Option Value)} {dV kV doc pm cdv ct : Value} (X : K.In h) (G : h.Ns mainGlobals mg)
    (n : PySem.W.nsIn K mainGlobals e.name = some (some (.ref a))) (l : K.lookup a = some ⟨oc, od, .func (PySem.W.fnOf e.name e.qual (defArgs e.st) (defBody e.st) (defScope e.st) dV kV doc pm an cdv ct), osl⟩) (c : PySem.W.codeIn K cdv e.qual = true) (k : PySem.W.keepIn K (.ref a) = true)
    (df : DfOk K mg (PySem.W.fnOf e.name e.qual (defArgs e.st) (defBody e.st) (defScope e.st) dV kV doc pm an cdv ct) e.ps e.fe.dv) (kw : KwAll K e.kw e.fe.np (PySem.W.fnOf e.name e.qual (defArgs e.st) (defBody e.st) (defScope e.st) dV kV doc pm an cdv ct) e.ps) (gc : e.gz = true → ∃ c t, cdv = .ref c ∧ CodeK K c t ∧ T t) : ∃ a fd, EntAt K mg T e a fd :=
  ⟨a, _, ⟨⟨⟨oc, od, dV, kV, doc, pm, an, cdv, ct, osl, rfl, l, c, gc⟩, k⟩, PySem.W.mg_of X G n, df, kw⟩⟩
theorem df_nil {fd : FuncData} {ps : List Str} (h : ∀ us : List Value, us.length = ps.length → bindArgs fd ⟨us, []⟩ = pure (ps.zip us)) : DfOk K mg fd ps [] :=
  ⟨fun n hn => by
    have : n = 0 := Nat.le_zero.mp hn
    subst this
    exact ⟨[], [], .nil, fun _ _ => .nil, .all h⟩⟩
theorem kw_nil {kw : Str → Nat} {np : Nat} {fd : FuncData} {ps : List Str} (h : kw = fun _ => 0) : KwAll K kw np fd ps := fun k hk => absurd (by rw [h]) hk
theorem kit_builtin {K : PySem.W.Frag} : ∀ t c b, isiB t c = some b → (∀ x ∈ tyNames, mg x = none) → mg ("int" : Str) = none → ∃ tv cv, TyV mg t tv ∧ ClV mg c cv ∧ PySem.W.kitOne K tv cv = some b := by
  intro t c b h hty hi
  unfold isiB at h
  split at h
  · rename_i hh
    obtain ⟨h1, h2⟩ := hh
    have hb := Option.some.inj h
    have cl : ∀ {C : String}, bootBuiltins (Str.ofString C) = some (.type C) → Str.ofString C ∈ tyNames → Str.ofString C ≠ "__name__" → ClV mg (Str.ofString C) (.type C) := fun {C} e m n => .inl ⟨hty _ m, e, n, C, rfl⟩
    have hcs : c = "int" ∨ c = "bool" ∨ c = "str" ∨ c = "list" ∨ c = "tuple" := by simpa [List.mem_cons] using h2
    have hts : t = "NoneType" ∨ t = "bool" ∨ t = "int" ∨ t = "str" ∨ t = "tuple" ∨ t = "list" := by simpa [tyNames, List.mem_cons] using h1
    have tys : ∃ T : String, t = Str.ofString T ∧ TyV mg t (.type T) ∧ (T = "NoneType" ∨ T = "bool" ∨ T = "int" ∨ T = "str" ∨ T = "tuple" ∨ T = "list") := by
      rcases hts with rfl | rfl | rfl | rfl | rfl | rfl
      · exact ⟨"NoneType", rfl, .inl ⟨rfl, rfl⟩, by simp⟩
      · exact ⟨"bool", rfl, .inr (.inl ⟨rfl, rfl⟩), by simp⟩
      · exact ⟨"int", rfl, .inr (.inr (.inl ⟨rfl, rfl⟩)), by simp⟩
      · exact ⟨"str", rfl, .inr (.inr (.inr (.inl ⟨rfl, rfl⟩))), by simp⟩
      · exact ⟨"tuple", rfl, .inr (.inr (.inr (.inr (.inl ⟨rfl, rfl⟩)))), by simp⟩
      · exact ⟨"list", rfl, .inr (.inr (.inr (.inr (.inr (.inl ⟨rfl, rfl⟩))))), by simp⟩
    have cls : ∃ C : String, c = Str.ofString C ∧ ClV mg c (.type C) ∧ (C = "int" ∨ C = "bool" ∨ C = "str" ∨ C = "list" ∨ C = "tuple") := by
      rcases hcs with rfl | rfl | rfl | rfl | rfl
      · exact ⟨"int", rfl, cl (by decide +kernel) (by decide +kernel) (by decide +kernel), by simp⟩
      · exact ⟨"bool", rfl, cl (by decide +kernel) (by decide +kernel) (by decide +kernel), by simp⟩
      · exact ⟨"str", rfl, cl (by decide +kernel) (by decide +kernel) (by decide +kernel), by simp⟩
      · exact ⟨"list", rfl, cl (by decide +kernel) (by decide +kernel) (by decide +kernel), by simp⟩
      · exact ⟨"tuple", rfl, cl (by decide +kernel) (by decide +kernel) (by decide +kernel), by simp⟩
    obtain ⟨T, e1, tv, hT⟩ := tys
    obtain ⟨C, e2, cv, hC⟩ := cls
    refine ⟨_, _, tv, cv, ?_⟩
    rw [← hb, e1, e2]
    rcases hT with rfl | rfl | rfl | rfl | rfl | rfl <;> rcases hC with rfl | rfl | rfl | rfl | rfl <;> kernel_rfl
  · cases h
end
def spL (K : PySem.W.Frag) (T : Addr → Prop) : Sp := fun vs H Q _ => ∃ (a : Addr) (ns : List Int), TabsIn T H ∧ vs = [.ref a] ∧ SqL K H a (ns.map V.int) ∧ ns.length ≤ 63 ∧ ∀ H', TabsIn T H' → Q (.bl true) H'
theorem rps_ints {K : PySem.W.Frag} {mg : Str → Option Value} {H : Hp} {F : Fz} : ∀ ns : List Int, Rps K mg H F (ns.map V.int) (ns.map D.int)
  | [] => .nil
  | n :: r => .cons (.int n) (rps_ints r)
theorem law_sp {K : PySem.W.Frag} {mg : Str → Option Value} {T : Addr → Prop} {phi : List D → R} (h : ∀ ns : List Int, ns.length ≤ 63 → phi [.lst (ns.map D.int)] = .ok (.bl true)) : ∀ vs H Q E, spL K T vs H Q E → spM K mg T 1 phi vs H Q E := by
  rintro vs H Q E ⟨a, ns, tb, rfl, sq, hl, k⟩
  rcases sq with sq | sq
  · refine ⟨fun b => b = a, [.lst (ns.map D.int)], tb, fun b hb => ?_, .cons (.lst (.inl ⟨rfl, sq⟩) (rps_ints ns)) .nil, rfl, ?_⟩
    · subst hb
      rcases sq with sq | ⟨o, sq⟩
      · exact ⟨_, sq⟩
      · exact ⟨_, sq⟩
    · rw [h ns hl]
      intro v H' F' g r
      cases r
      exact k H' (tb.same g.same)
  · refine ⟨fun _ => False, [.lst (ns.map D.int)], tb, fun b hb => hb.elim, .cons (.lst (.inr sq) (rps_ints ns)) .nil, rfl, ?_⟩
    rw [h ns hl]
    intro v H' F' g r
    cases r
    exact k H' (tb.same g.same)
end Nf
namespace Nf
open PySem L2 PySem.Spec PyProof.Rows
structure TblAt (K : PySem.W.Frag) (mg : Str → Option Value) (t c : Str) (b : Bool) : Prop where
  ex : ∃ T cv, mg t = some (.ref T) ∧ ClV mg c cv ∧ PySem.W.kitOne K (.ref T) cv = some b ∧ (b = true → PySem.W.exmOne K (.ref T) cv = some true) ∧ XCls K T
theorem tbl_own {K : PySem.W.Frag} {mg : Str → Option Value} {h : Heap} {t c : Str} {T C : Addr} {b : Bool} (X : K.In h) (N : h.Ns mainGlobals mg) (xc : XCls K T) (nt : PySem.W.nsIn K mainGlobals t = some (some (.ref T))) (nc : PySem.W.nsIn K mainGlobals c = some (some (.ref C)))
    (k : PySem.W.kitOne K (.ref T) (.ref C) = some b) (e : b = true → PySem.W.exmOne K (.ref T) (.ref C) = some true) : TblAt K mg t c b :=
  ⟨⟨T, .ref C, PySem.W.mg_of X N nt, .inr ⟨PySem.W.mg_of X N nc, C, rfl⟩, k, e, xc⟩⟩
theorem tbl_blt {K : PySem.W.Frag} {mg : Str → Option Value} {h : Heap} {t c : Str} {T : Addr} {C : String} {b : Bool} (X : K.In h) (N : h.Ns mainGlobals mg) (xc : XCls K T) (nt : PySem.W.nsIn K mainGlobals t = some (some (.ref T))) (nc : PySem.W.nsIn K mainGlobals c = some none)
    (bv : bootBuiltins c = some (.type C)) (hn : c ≠ "__name__") (k : PySem.W.kitOne K (.ref T) (.type C) = some b) (e : b = true → PySem.W.exmOne K (.ref T) (.type C) = some true) : TblAt K mg t c b :=
  ⟨⟨T, .type C, PySem.W.mg_of X N nt, .inl ⟨PySem.W.mg_none_of X N nc, bv, hn, C, rfl⟩, k, e, xc⟩⟩
theorem ClV.eq {mg : Str → Option Value} {c : Str} {u v : Value} (a : ClV mg c u) (b : ClV mg c v) : u = v := by
  rcases a with ⟨a1, a2, _⟩ | ⟨a1, _⟩ <;> rcases b with ⟨b1, b2, _⟩ | ⟨b1, _⟩
  · rw [a2] at b2; exact Option.some.inj b2
  · rw [a1] at b1; cases b1
  · rw [b1] at a1; cases a1
  · rw [a1] at b1; exact Option.some.inj b1
def ConAt (K : PySem.W.Frag) (mg : Str → Option Value) (x : Str) (d : D) : Prop := ∃ v u, mg x = some u ∧ RelV v u ∧ ∀ H F, Rp K mg H F v d
def ExcFor (K : PySem.W.Frag) (mg : Str → Option Value) (c : Str) : Prop := ∃ C, mg c = some (.ref C) ∧ PySem.W.excIn K C [.type "ValueError", .type "Exception", .type "BaseException", .type "object"] "ValueError.__new__" = true
theorem exc_for {K : PySem.W.Frag} {mg : Str → Option Value} {h : Heap} {c : Str} {C : Addr} (X : K.In h) (N : h.Ns mainGlobals mg) (n : PySem.W.nsIn K mainGlobals c = some (some (.ref C))) (e : PySem.W.excIn K C [.type "ValueError", .type "Exception", .type "BaseException", .type "object"] "ValueError.__new__" = true) : ExcFor K mg c := ⟨C, PySem.W.mg_of X N n, e⟩
theorem wok_mk {K : PySem.W.Frag} {mg : Str → Option Value} {h : Heap} {G : Gm} (X : K.In h) (N : h.Ns mainGlobals mg)
    (z0 : PySem.W.nsIn K mainGlobals "len" = some none) (z1 : PySem.W.nsIn K mainGlobals "min" = some none) (z2 : PySem.W.nsIn K mainGlobals "max" = some none) (z3 : PySem.W.nsIn K mainGlobals "abs" = some none) (z4 : PySem.W.nsIn K mainGlobals "int" = some none)
    (z5 : PySem.W.nsIn K mainGlobals "divmod" = some none) (z6 : PySem.W.nsIn K mainGlobals "isinstance" = some none) (z7 : PySem.W.nsIn K mainGlobals "range" = some none) (z8 : PySem.W.nsIn K mainGlobals "enumerate" = some none)
    (z9 : PySem.W.nsIn K mainGlobals "NoneType" = some none) (z10 : PySem.W.nsIn K mainGlobals "bool" = some none) (z11 : PySem.W.nsIn K mainGlobals "str" = some none) (z12 : PySem.W.nsIn K mainGlobals "tuple" = some none) (z13 : PySem.W.nsIn K mainGlobals "list" = some none)
    (z14 : PySem.W.nsIn K mainGlobals "type" = some none) (z15 : PySem.W.nsIn K mainGlobals "any" = some none) (z16 : PySem.W.nsIn K mainGlobals "sum" = some none) (z17 : PySem.W.nsIn K mainGlobals "reversed" = some none) (z18 : PySem.W.nsIn K mainGlobals "dict" = some none) {tbl : List (Str × Str × Bool)} {excs news : List Str} {cons : List (Str × D)} (ht : ∀ x ∈ tbl, ¬ x.1 ∈ tyNames ∧ TblAt K mg x.1 x.2.1 x.2.2) (he : ∀ c ∈ excs, ExcFor K mg c) (hc : ∀ x ∈ cons, ConAt K mg x.1 x.2) (hw : ∀ c ∈ news, ∃ C, mg c = some (.ref C) ∧ NewOk K C)
    (e1 : G.con = fun x => (cons.find? fun y => y.1 == x).map (·.2)) (e2 : G.isi = isiT tbl) (e3 : G.exc = fun c => excs.contains c) (e4 : G.new = fun c => news.contains c) : Wok K mg G := by
  have tyF : ∀ t ∈ tyNames, mg t = none := by
    intro t ht
    have ht : t = "NoneType" ∨ t = "bool" ∨ t = "int" ∨ t = "str" ∨ t = "tuple" ∨ t = "list" := by simpa [tyNames, List.mem_cons] using ht
    rcases ht with rfl | rfl | rfl | rfl | rfl | rfl
    · exact PySem.W.mg_none_of X N z9
    · exact PySem.W.mg_none_of X N z10
    · exact PySem.W.mg_none_of X N z4
    · exact PySem.W.mg_none_of X N z11
    · exact PySem.W.mg_none_of X N z12
    · exact PySem.W.mg_none_of X N z13
  have own : ∀ t c b, isiT tbl t c = some b → isiB t c = some b ∨ (isiB t c = none ∧ ¬ t ∈ tyNames ∧ TblAt K mg t c b) := fun t c b h => by
    unfold isiT at h
    cases eB : isiB t c with
    | some b' => rw [eB] at h; exact .inl h
    | none =>
      rw [eB] at h
      obtain ⟨x, hx, hb⟩ := Option.map_eq_some_iff.mp h
      have p := List.find?_some hx
      have m := List.mem_of_find?_eq_some hx
      obtain ⟨p1, p2⟩ := a2 p
      obtain ⟨n, q⟩ := ht x m
      rw [← beq_iff_eq.mp p1, ← beq_iff_eq.mp p2, ← hb]
      exact .inr ⟨rfl, n, q⟩
  have nb : ∀ t c b, isiB t c = some b → t ∈ tyNames := fun t c b h => by
    unfold isiB at h
    split at h
    · rename_i hh; exact hh.1
    · cases h
  refine ⟨fun x d e => ?_, fun f => ?_, PySem.W.mg_none_of X N z6, PySem.W.mg_none_of X N z13, PySem.W.mg_none_of X N z7, PySem.W.mg_none_of X N z8, PySem.W.mg_none_of X N z15, PySem.W.mg_none_of X N z16, PySem.W.mg_none_of X N z17, fun t c b e => ?_, tyF, fun c e => hw c (by rw [e4] at e; simpa using e), fun c e => ?_, fun t c e hn tv cv m1 m2 => ?_, ?_⟩
  · rw [e1] at e
    obtain ⟨y, hy, hb⟩ := Option.map_eq_some_iff.mp e
    have p : (y.1 == x) = true := List.find?_some (p := fun y : Str × D => y.1 == x) hy
    rw [← hb, ← beq_iff_eq.mp p]
    exact hc y (List.mem_of_find?_eq_some hy)
  · cases f with
    | len => exact PySem.W.mg_none_of X N z0
    | min => exact PySem.W.mg_none_of X N z1
    | max => exact PySem.W.mg_none_of X N z2
    | abs => exact PySem.W.mg_none_of X N z3
    | int => exact PySem.W.mg_none_of X N z4
    | divmod => exact PySem.W.mg_none_of X N z5
  · rw [e2] at e
    rcases own t c b e with e | ⟨_, n, ⟨T, cv, m1, m2, k, _, _⟩⟩
    · exact kit_builtin t c b e tyF (PySem.W.mg_none_of X N z4)
    · exact ⟨.ref T, cv, .inr (.inr (.inr (.inr (.inr (.inr ⟨n, m1, T, rfl⟩))))), m2, k⟩
  · rw [e3] at e
    exact he c (by simpa using e)
  · rw [e2] at e
    rcases own t c true e with e | ⟨_, n, ⟨T, cv', m1', m2', _, k, _⟩⟩
    · exact absurd (nb t c true e) hn
    · rw [m1'] at m1
      cases m1
      rw [m2.eq m2']
      exact k rfl
  · intro X' pins st σ H F v u d tv hK I r ru hn m1 ⟨c, b, e⟩
    rw [e2] at e
    rcases own _ c b e with e | ⟨_, n, ⟨T, cv', m1', _, _, _, xc⟩⟩
    · exact absurd (nb _ c b e) hn
    · rw [m1'] at m1
      cases m1
      cases r with
      | @exc a C c' ds f mc ha =>
        have mc : mg c' = some (.ref C) := mc
        have m1' : mg c' = some (.ref T) := m1'
        rw [mc] at m1'
        cases m1'
        cases ru
        obtain ⟨⟨o, vs, p1, p2, _⟩, _⟩ := I.hok _ _ ha
        exact ⟨_, kitx_cls xc, ⟨o, p1, p2⟩, fun z => by cases z⟩
      | @ins a C dx c' f mc ha =>
        have mc : mg c' = some (.ref C) := mc
        have m1' : mg c' = some (.ref T) := m1'
        rw [mc] at m1'
        cases m1'
        cases ru
        obtain ⟨hdx, _, _, p, _⟩ := I.hok _ _ ha
        exact ⟨_, kitx_cls xc, ⟨_, p, rfl⟩, fun z => by cases z⟩
      | @dct a ks xs ds f ha hl hr =>
        have m0 : mg "dict" = none := PySem.W.mg_none_of X N z18
        have m1' : mg "dict" = some (.ref T) := m1'
        rw [m0] at m1'
        cases m1'
      | non => exact absurd (by decide +kernel) hn
      | bl b => exact absurd (show ("bool" : Str) ∈ tyNames by decide +kernel) hn
      | int b => exact absurd (show ("int" : Str) ∈ tyNames by decide +kernel) hn
      | str b => exact absurd (show ("str" : Str) ∈ tyNames by decide +kernel) hn
      | tup _ _ => exact absurd (show ("tuple" : Str) ∈ tyNames by decide +kernel) hn
      | lst _ _ => exact absurd (show ("list" : Str) ∈ tyNames by decide +kernel) hn
end Nf
namespace Nf
open PySem L2 PySem.Spec PyProof.Rows
theorem mths_of {T : Addr → Prop} {K : PySem.W.Frag} {mg : Str → Option Value} {G0 : Gm} {ml : List (Str × Str × Ent)} (e : G0.mth = fun c m => (ml.find? fun x => x.1 == c && x.2.1 == m).map (·.2.2.fe)) (h : ∀ x ∈ ml, MthAt G0 K mg T x.1 x.2.1 x.2.2) : MthsOk G0 K mg T := fun c m fe hf => by
  rw [e] at hf
  obtain ⟨x, hx, hb⟩ := Option.map_eq_some_iff.mp hf
  have p := List.find?_some hx
  obtain ⟨p1, p2⟩ := a2 p
  refine ⟨x.2.2, hb, ?_⟩
  rw [← beq_iff_eq.mp p1, ← beq_iff_eq.mp p2]
  exact h x (List.mem_of_find?_eq_some hx)
theorem ent_mkL {T : Addr → Prop} {K : PySem.W.Frag} {mg : Str → Option Value} {e : Ent} {h : Heap} {a : Addr} {oc : Value} {od an : Option Addr} {osl : Array (Option Value)} {kV doc pm cdv ct : Value} (X : K.In h) (G : h.Ns mainGlobals mg)
    (n : PySem.W.nsIn K mainGlobals e.name = some (some (.ref a))) (l : K.lookup a = some ⟨oc, od, .func (PySem.W.fnOf e.name e.qual (defArgs e.st) (defBody e.st) (defScope e.st) .none kV doc pm an cdv ct), osl⟩) (c : PySem.W.codeIn K cdv e.qual = true) (k : PySem.W.keepIn K (.ref a) = true)
    (df : ∀ us : List Value, us.length = e.ps.length → bindArgs (PySem.W.fnOf e.name e.qual (defArgs e.st) (defBody e.st) (defScope e.st) .none kV doc pm an cdv ct) ⟨us, []⟩ = pure (e.ps.zip us)) (hd : e.fe.dv = []) (hkw : KwAll K e.kw e.fe.np (PySem.W.fnOf e.name e.qual (defArgs e.st) (defBody e.st) (defScope e.st) .none kV doc pm an cdv ct) e.ps) (gz : e.gz = false) :
    ∃ a fd, EntAt K mg T e a fd ∧ ∀ us : List Value, us.length = e.ps.length → bindArgs fd ⟨us, []⟩ = pure (e.ps.zip us) :=
  ⟨a, _, ⟨⟨⟨oc, od, .none, kV, doc, pm, an, cdv, ct, osl, rfl, l, c, fun z => by rw [gz] at z; cases z⟩, k⟩, PySem.W.mg_of X G n, by rw [hd]; exact df_nil df, hkw⟩, df⟩
end Nf
set_option linter.all false
set_option maxRecDepth 100000
set_option autoImplicit false
set_option maxHeartbeats 4000000
namespace Nf
open PySem L2 PySem.Spec PyProof.Rows
def TabOf (mg : Str → Option Value) (h : Heap) (gens : List Str) : Addr → Prop := fun p => ∃ f, f ∈ gens ∧ ∃ a o fd c oc vs, mg f = some (.ref a) ∧ h.get? a = some o ∧ o.data = .func fd ∧ fd.code = .ref c ∧ h.get? c = some oc ∧ oc.data = .fields vs ∧ vs[11]? = some (.ref p)
def noTab : PySem.W.Frag → Bool
  | [] => true
  | (_, ⟨.none, _, .fields _, _⟩) :: _ => false
  | _ :: r => noTab r
theorem noTab_ok : ∀ {K : PySem.W.Frag} {p : Addr} {ps : Array Value}, noTab K = true → K.lookup p ≠ some { cls := .none, data := .fields ps }
  | [], _, _, _, e => by cases e
  | (b, o) :: r, p, ps, h, e => by
    rw [List.lookup_cons] at e
    have hr : noTab r = true := by
      unfold noTab at h
      split at h
      · rename_i z; cases z
      · cases h
      · rename_i z; cases z; exact h
    cases q : p == b with
    | false => rw [q] at e; exact noTab_ok hr e
    | true =>
      rw [q] at e
      have e : some o = some _ := e
      cases e
      unfold noTab at h
      cases h
section
open Classical
noncomputable def startH (T : Addr → Prop) (a : Addr) (fz : Option HO) : Hp := fun b => if T b then some (tabO b) else if b = a then fz else none
theorem law_callT {P : Program} {w : World} {K : PySem.W.Frag} {mg mb : Str → Option Value} {CX : CXT} {k : Nat} {fa a : Addr} {fd : FuncData} {x : Str} {sp : Sp} {s₁ : Shared} {vs : List Value} {ns : List Int} {T : Addr → Prop}
    (KX : K.In s₁.heap) (hns : s₁.heap.Ns mainGlobals mg) (hb : s₁.heap.Ns builtinsNs mb) (hbb : ∀ x : Str, x ≠ "__name__" → mb x = bootBuiltins x) (hlim : s₁.heap.NoLimit) (hg : s₁.gens = #[])
    (hT : ∀ p, T p → s₁.heap.get? p = some { cls := .none, data := .fields #[] } ∧ isCodeTable s₁.heap p) (hK : noTab K = true) (hbm : ∃ bm, BiB s₁.heap mg bm)
    (ha : s₁.heap.get? a = some { cls := .type "list", data := .seq vs.toArray }) (hi : IntsAre vs ns) (hl : ns.length ≤ sizeLine) (hr : Room k callerA)
    (F : ∀ base : Heap, K.In base → base.Ns mainGlobals mg → (∃ bm, BiB base mg bm) → FnOk P w K mg base CX k fa fd [x] sp) (hbind : ∀ (s : Shared) (u : Value), BindsTo s fd ⟨[u], []⟩ [(x, u)])
    (hsp : ∀ H : Hp, TabsIn T H → SqL K H a (ns.map V.int) → sp [.ref a] H (fun v H' => v = .bl true ∧ TabsIn T H') fun _ _ _ => False)
    (hCX : ∀ H e s', CX [] H s₁ (fun _ _ _ => False) e s' → False) :
    codeAny (model P w) callerA (.call (.ref fa) ⟨[.ref a], []⟩) (fun r s' => r = .ok (.ret (.bool true)) ∧ OldK s₁.heap s'.heap ∧ s'.os = s₁.os ∧ AllBare s'.gens) s₁ := by
  have rv := vals_ints hi
  have lenV := hi.length
  have nTa : ¬ T a := fun z => by
    have := (hT a z).1
    rw [ha] at this; cases this
  have core : ∀ fz : Option HO, (fz = none ∨ ∃ o xs, fz = some (.frz o (.lst xs))) → SqL K (startH T a fz) a (ns.map V.int) → HOk P w (startH T a fz) s₁.heap → (fz ≠ none → K.lookup a = none) →
      codeAny (model P w) callerA (.call (.ref fa) ⟨[.ref a], []⟩) (fun r s' => r = .ok (.ret (.bool true)) ∧ OldK s₁.heap s'.heap ∧ s'.os = s₁.os ∧ AllBare s'.gens) s₁ := by
    intro fz hO hS hok hKa
    generalize hH : startH T a fz = H at hS hok
    have HT : ∀ b, T b → H b = some (tabO b) := fun b hb => by rw [← hH]; exact if_pos hb
    have HA : H a = fz := by rw [← hH]; unfold startH; rw [if_neg nTa, if_pos rfl]
    have HN : ∀ b, ¬ T b → b ≠ a → H b = none := fun b h1 h2 => by rw [← hH]; unfold startH; rw [if_neg h1, if_neg h2]
    have base_of : ∀ {b : Addr} {o : Obj}, s₁.heap.get? b = some o → H b = none → (hidT s₁.heap H).get? b = some o := fun e n => hidT_get e n
    have noO : ∀ {b : Addr} {o : Obj}, s₁.heap.get? b = some o → o ≠ { cls := .none, data := .fields #[] } → o ≠ { cls := .type "list", data := .seq vs.toArray } → H b = none := fun {b o} e n1 n2 => by
      refine HN b (fun z => n1 ?_) (fun z => n2 ?_)
      · have := (hT b z).1
        rw [e] at this; exact Option.some.inj this
      · rw [z, ha] at e; exact (Option.some.inj e).symm
    have noA : ∀ {b : Addr} {o : Obj} {es : Array DictEntry} {ep : Nat}, s₁.heap.get? b = some o → o.data = .dict es ep → H b = none := fun {b o es ep} e d =>
      noO e (fun z => by subst z; cases d) (fun z => by subst z; cases d)
    have nsK : ∀ {b : Addr} {m : Str → Option Value}, s₁.heap.Ns b m → (hidT s₁.heap H).Ns b m := fun {b m} ⟨o, es, ep, e, d, r⟩ => ⟨o, es, ep, base_of e (noA e d), d, r⟩
    have hKb : K.In (hidT s₁.heap H) := fun b o e => base_of (KX b o e) (by
      by_cases hTb : T b
      · have := KX b o e
        rw [(hT b hTb).1] at this
        cases this
        exact absurd e (noTab_ok hK)
      · by_cases hba : b = a
        · subst hba
          rw [HA]
          cases q : fz with
          | none => rfl
          | some u =>
            rw [hKa (by rw [q]; simp)] at e; cases e
        · exact HN b hTb hba)
    have hM : Mod K mg (hidT s₁.heap H) := ⟨hKb, nsK hns, ⟨mb, nsK hb, hbb⟩, let ⟨mc, h1, h2⟩ := hlim; ⟨mc, nsK h1, h2⟩⟩
    have hBi : ∃ bm, BiB (hidT s₁.heap H) mg bm := by
      obtain ⟨bm, m1, m2, o, e, c1, c2, c3⟩ := hbm
      exact ⟨bm, m1, m2, o, base_of e (noO e (fun z => by subst z; cases c1) (fun z => by subst z; cases c2)), c1, c2, c3⟩
    have e0 : Env0 P w K mg (hidT s₁.heap H) callerA [] s₁ H := ⟨rfl, hM, fun b o e => of_hidT e, Nat.le_of_eq (hidT_size _ _), trivial, fun b hb => absurd (show b ∈ ([] : List Addr) from hb) (by simp), hok, trivial⟩
    refine codeAny_mono ((F _ hKb (nsK hns) hBi).run callerA [] s₁ H ⟨[.ref a], []⟩ [.ref a] [.ref a] _ _ hr e0 (hbind s₁ (.ref a)) (.cons rfl .nil) (hsp H HT hS)) fun r s' h => ?_
    cases r with
    | error e => exact (hCX H e s' h).elim
    | ok fl =>
      cases fl with
      | next => exact False.elim h
      | brk => exact False.elim h
      | cont => exact False.elim h
      | ret u =>
        obtain ⟨v, H', os, bare, un, hok', r', q, tb'⟩ := h
        subst q
        obtain rfl : u = Value.bool true := r'
        have other : ∀ b o, ¬ T b → s₁.heap.get? b = some o → s'.heap.get? b = some o := fun b o nT e => by
          by_cases hba : b = a
          · subst hba
            rcases hO with z | ⟨ob, xs, z⟩
            · exact un.keep b o e (by rw [HA, z]) (by intro z; exact absurd (show b ∈ ([] : List Addr) from z) (by simp)) (by simp)
            · have z1 : H b = some (.frz ob (.lst xs)) := by rw [HA, z]
              have z2 := un.frzs b ob _ z1
              obtain ⟨e1, _⟩ := hok b _ z1
              obtain ⟨e2, _⟩ := hok' b _ z2
              rw [e] at e1; cases e1
              exact e2
          · exact un.keep b o e (HN b nT hba) (by intro z; exact absurd (show b ∈ ([] : List Addr) from z) (by simp)) (by simp)
        refine ⟨rfl, ⟨fun b o e => ?_, fun b o e => ?_⟩, os, bare.allBare (.of_eq hg)⟩
        · by_cases hTb : T b
          · obtain ⟨h1, h2⟩ := hT b hTb
            rw [h1] at e
            cases e
            obtain ⟨⟨ps, e2, _⟩, _⟩ := hok' b _ (tb' b hTb)
            exact .inr (.inl ⟨h2, rfl, #[], ps, rfl, by rw [e2]; simp⟩)
          · exact .inl (other b o hTb e)
        · by_cases hTb : T b
          · obtain ⟨⟨ps, e2, _⟩, _⟩ := hok' b _ (tb' b hTb)
            exact ⟨_, e2⟩
          · exact ⟨o, other b o hTb e⟩
  have tabs : ∀ b, T b → ObjOk P w (fun _ => none) s₁.heap b (tabO b) := fun b hb => by
    have e := (hT b hb).1
    exact ⟨⟨#[], e, by unfold TriplesOk; first | trivial | simp⟩, ⟨_, e⟩, fun h1 h2 x k => x.stay k⟩
  cases hk : K.lookup a with
  | some o =>
    have e := KX a o hk
    rw [ha] at e
    cases e
    refine core none (.inl rfl) (.inr ⟨_, vs.toArray, _, hk, rfl, rfl, rfl, by rw [List.size_toArray, lenV]; exact hl, by simpa using rv⟩) (fun b u z => ?_) (fun z => absurd rfl z)
    unfold startH at z
    by_cases hTb : T b
    · rw [if_pos hTb] at z; cases z; exact tabs b hTb
    · rw [if_neg hTb] at z; split at z <;> cases z
  | none =>
    have hA : startH T a (some (.frz { cls := .type "list", data := .seq vs.toArray } (.lst (ns.map V.int)))) a = some (.frz { cls := .type "list", data := .seq vs.toArray } (.lst (ns.map V.int))) := by unfold startH; rw [if_neg nTa, if_pos rfl]
    refine core (some (.frz { cls := .type "list", data := .seq vs.toArray } (.lst (ns.map V.int)))) (.inr ⟨_, _, rfl⟩) (.inl (.inr ⟨_, hA⟩)) (fun b u z => ?_) fun _ => hk
    unfold startH at z
    by_cases hTb : T b
    · rw [if_pos hTb] at z; cases z; exact tabs b hTb
    · rw [if_neg hTb] at z
      by_cases hba : b = a
      · rw [if_pos hba] at z
        cases z
        subst hba
        exact ⟨ha, by rw [List.length_map]; exact hl, vs, _, rv, ha⟩
      · rw [if_neg hba] at z; cases z
end
theorem walk_ofT {l : PySem.W.OpenLaw} {n k : Nat} {q : Program} {loose : List Str} {XP : (Str → Option Value) → Heap → Prop} {YP : World → Heap → Prop} {d : DefRec} {K : Params → PySem.W.Frag} {CX : World → CXT} {sp : World → (Addr → Prop) → Sp} {x : Str} {gens : List Str}
    (hn : l.most = some n) (hn2 : n ≤ sizeLine) (hdf : d.params.defaults = []) (hr : Room k callerA) (hgen : (gens.all fun f => (recsOf q).any fun d => d.name == f) = true)
    (hY : ∀ (w : World) (h : Heap), YP w h → (K w.params).In h) (hK : ∀ w : World, noTab (K w.params) = true)
    (F : ∀ (w : World) (mg : Str → Option Value) (fa : Addr) (h : Heap), (K w.params).In h → h.Ns mainGlobals mg → mg d.name = some (.ref fa) →
      ∃ fd : FuncData, (∀ (s : Shared) (u : Value), BindsTo s fd ⟨[u], []⟩ [(x, u)]) ∧
        ∀ base : Heap, (K w.params).In base → base.Ns mainGlobals mg → (∃ bm, BiB base mg bm) → FnOk l.prog w (K w.params) mg base (CX w) k fa fd [x] (sp w (TabOf mg h gens)))
    (hsp : ∀ (w : World) (T : Addr → Prop) (H : Hp) (a : Addr) (ns : List Int), ns.length ≤ n → TabsIn T H → SqL (K w.params) H a (ns.map V.int) → sp w T [.ref a] H (fun v H' => v = .bl true ∧ TabsIn T H') fun _ _ _ => False)
    (hCX : ∀ (w : World) (H : Hp) (s : Shared) (e : Value) (s' : Shared), CX w [] H s (fun _ _ _ => False) e s' → False) :
    PySem.W.WalkO q loose XP YP l.row.toRowW d [] (fun f vs => PySem.call f vs) := by
  refine Att.attach_call hn hdf fun w s₀ s₁ mg mb fa o pm cd doc a vs ns G Y ho hd hcd hmg hobj hints hlen hg => ?_
  have KX := hY w _ Y
  obtain ⟨fd, hb, hF⟩ := F w mg fa _ KX G.T.g hmg
  refine law_callT (T := TabOf mg s₁.heap gens) KX G.T.g G.T.b G.T.builtins G.T.nolimit hg (fun p hp => ?_) (hK w) ?_ hobj hints (Nat.le_trans hlen hn2) hr hF hb (fun H hT hS => hsp w _ H a ns hlen hT hS) fun H e s' => hCX w H s₁ e s'
  · obtain ⟨f, hf, a1, o1, fd1, c1, oc1, vs1, m1, e1, d1, k1, e2, d2, t1⟩ := hp
    have hf := List.all_eq_true.mp hgen f hf
    obtain ⟨dr, hdr, hnm⟩ := List.any_eq_true.mp hf
    have hnm : dr.name = f := beq_iff_eq.mp hnm
    obtain ⟨a', o', fd', c, P, h1, h2, h3, h4, h5, h6⟩ := G.T.tab dr hdr
    rw [hnm, m1] at h1; cases h1
    rw [e1] at h2; cases h2
    rw [d1] at h3; cases h3
    rw [k1] at h4; cases h4
    obtain ⟨⟨o2, vs2, g1, g2, g3, g4⟩, g5⟩ := id h6
    rw [e2] at g1; cases g1
    rw [d2] at g3; cases g3
    rw [t1] at g4; cases g4
    exact ⟨g5, h6.isCodeTable⟩
  · obtain ⟨bm, ob, b1, b2, b3, b4, b5, b6⟩ := G.T.bmain
    exact ⟨bm, b1, b2, ob, b3, b4, b5, b6⟩
end Nf
set_option linter.all false
set_option maxRecDepth 100000
set_option autoImplicit false
set_option maxHeartbeats 4000000
namespace Nf.K22
open PySem L2 PySem.Spec PyProof.Rows
def top (i : Nat) : Stmt := PySem.Challenge.pw_nearfold_k22_flag_words.main.body.getD i (.Pass ⟨0, 0, 0, 0⟩)
def tbl : List (Str × Str × Bool) := ("NoFlags", "FoldError", true) :: ("NoFlags", "NoBits", false) :: ("NoFlags", "NoName", false) :: ("NoFlags", "NoNumber", false) :: ("NoFlags", "NoParts", false) :: ("NoFlags", "NoRow", false) :: ("NoFlags", "NoShape", false) :: ("NoFlags", "NoStep", false) :: ("NoFlags", "NoText", false) :: ("NoFlags", "NoWay", false) :: ("NoFlags", "NoWhole", false) :: ("NoFlags", "NoWord", false) :: ("NoFlags", "NoFlags", true) :: ("NoFlags", "ValueError", true) :: []
def excs : List Str := ["NoFlags"]
def cons : List (Str × D) := [("NEAR", .int 1), ("FAINT", .int 2), ("OVER", .int 4), ("VOID", .int 8), ("ODD", .int 16), ("WORDS", .tup [.str "near", .str "faint", .str "over", .str "void", .str "odd"])]
def news : List Str := []
def G00 : Gm := { con := fun x => (cons.find? fun y => y.1 == x).map (·.2), fn := fun _ => none, isi := isiT tbl, att := fun _ _ => none, new := fun c => news.contains c, exc := fun c => excs.contains c, mth := fun _ _ => none, kw := fun _ _ => 0, fuel := 0 }
def ml : List (Str × Str × Ent) := []
def G0 : Gm := { G00 with mth := fun c m => (ml.find? fun x => x.1 == c && x.2.1 == m).map (·.2.2.fe) }
theorem cn_NEAR (l : List Ent) : (mkG G0 l).con "NEAR" = some (.int 1) := by kernel_rfl
theorem cn_FAINT (l : List Ent) : (mkG G0 l).con "FAINT" = some (.int 2) := by kernel_rfl
theorem cn_OVER (l : List Ent) : (mkG G0 l).con "OVER" = some (.int 4) := by kernel_rfl
theorem cn_VOID (l : List Ent) : (mkG G0 l).con "VOID" = some (.int 8) := by kernel_rfl
theorem cn_ODD (l : List Ent) : (mkG G0 l).con "ODD" = some (.int 16) := by kernel_rfl
theorem cn_WORDS (l : List Ent) : (mkG G0 l).con "WORDS" = some (.tup [.str "near", .str "faint", .str "over", .str "void", .str "odd"]) := by kernel_rfl
theorem isi : ∀ l : List Ent, Isi (mkG G0 l) := fun _ _ _ _ h => isiT_B h
theorem xt_NoFlags : ∀ c ∈ xcls, isiT tbl "NoFlags" c = some (isX "NoFlags" c) := by decide +kernel
abbrev e0 : Ent := { name := "_law_due", qual := "_law_due", st := top 27, N := ["_law_flags", "_law_due_here", "_law_word"], ps := ["_law_flags"], body := b_l_due_k22, fe := ⟨1, [], evN (mkG G0 []) 1 ⟨3, b_l_due_k22⟩⟩ }
def l0 : List Ent := e0 :: []
theorem s0 : EntSt G0 [] e0 := ⟨.inr ⟨⟨rfl, rfl, rfl, by decide +kernel, rfl, by decide +kernel, by decide +kernel⟩, fun n => by kernel_rfl⟩, rfl, fun ds hd => .inr ⟨0, (if_pos hd).symm⟩⟩
theorem t0 {l : List Ent} (h : (mkG G0 l).fn "_law_due" = some e0.fe) : cDue22 (useFn ((mkG G0 l).fn "_law_due")) := (congrArg (cDue22) ((congrArg useFn h).trans (useFn_chk (np := 1)))).mpr (l_due22 )
abbrev e1 : Ent := { name := "is_whole", qual := "is_whole", st := top 15, N := ["thing"], ps := ["thing"], body := b_is_whole, fe := ⟨1, [], evN (mkG G0 l0) 1 ⟨1, b_is_whole⟩⟩ }
def l1 : List Ent := e1 :: l0
theorem s1 : EntSt G0 l0 e1 := ⟨.inr ⟨⟨rfl, rfl, rfl, by decide +kernel, rfl, by decide +kernel, by decide +kernel⟩, fun n => by kernel_rfl⟩, rfl, fun ds hd => .inr ⟨0, (if_pos hd).symm⟩⟩
theorem t1 {l : List Ent} (h : (mkG G0 l).fn "is_whole" = some e1.fe) : cIsWhole (useFn ((mkG G0 l).fn "is_whole")) := (congrArg (cIsWhole) ((congrArg useFn h).trans (useFn_chk (np := 1)))).mpr (is_whole_ev (isi l0))
abbrev e2 : Ent := { name := "is_within", qual := "is_within", st := top 16, N := ["thing", "least", "greatest"], ps := ["thing", "least", "greatest"], body := b_is_within, fe := ⟨3, [], evN (mkG G0 l1) 3 ⟨3, b_is_within⟩⟩ }
def l2 : List Ent := e2 :: l1
theorem s2 : EntSt G0 l1 e2 := ⟨.inr ⟨⟨rfl, rfl, rfl, by decide +kernel, rfl, by decide +kernel, by decide +kernel⟩, fun n => by kernel_rfl⟩, rfl, fun ds hd => .inr ⟨0, (if_pos hd).symm⟩⟩
theorem t2 {l : List Ent} (h : (mkG G0 l).fn "is_within" = some e2.fe) : cWithin (useFn ((mkG G0 l).fn "is_within")) := (congrArg (cWithin) ((congrArg useFn h).trans (useFn_chk (np := 3)))).mpr (is_within_ev (t1 (l := l1) (by kernel_rfl)))
abbrev e3 : Ent := { name := "flag_words", qual := "flag_words", st := top 24, N := ["flags", "place", "word"], ps := ["flags"], body := b_flag_words, fe := ⟨1, [], evN (mkG G0 l2) 1 ⟨3, b_flag_words⟩⟩ }
def l3 : List Ent := e3 :: l2
theorem s3 : EntSt G0 l2 e3 := ⟨.inr ⟨⟨rfl, rfl, rfl, by decide +kernel, rfl, by decide +kernel, by decide +kernel⟩, fun n => by kernel_rfl⟩, rfl, fun ds hd => .inr ⟨0, (if_pos hd).symm⟩⟩
theorem t3 {l : List Ent} (h : (mkG G0 l).fn "flag_words" = some e3.fe) : cFW (useFn ((mkG G0 l).fn "flag_words")) := (congrArg (cFW) ((congrArg useFn h).trans (useFn_chk (np := 1)))).mpr (flag_words_ev (t2 (l := l2) (by kernel_rfl)) (cn_NEAR l2) (cn_FAINT l2) (cn_OVER l2) (cn_VOID l2) (cn_ODD l2) (cn_WORDS l2))
abbrev e4 : Ent := { name := "_law_cell", qual := "_law_cell", st := top 26, N := ["_law_script", "_law_k"], ps := ["_law_script", "_law_k"], body := b_l_cell, fe := ⟨2, [], evN (mkG G0 l3) 2 ⟨2, b_l_cell⟩⟩ }
def l4 : List Ent := e4 :: l3
theorem s4 : EntSt G0 l3 e4 := ⟨.inr ⟨⟨rfl, rfl, rfl, by decide +kernel, rfl, by decide +kernel, by decide +kernel⟩, fun n => by kernel_rfl⟩, rfl, fun ds hd => .inr ⟨0, (if_pos hd).symm⟩⟩
theorem t4 {l : List Ent} (h : (mkG G0 l).fn "_law_cell" = some e4.fe) : cCell (useFn ((mkG G0 l).fn "_law_cell")) := (congrArg (cCell) ((congrArg useFn h).trans (useFn_chk (np := 2)))).mpr (cell_ev )
abbrev e5 : Ent := { name := "_law_alike", qual := "_law_alike", st := top 28, N := ["_law_found", "_law_due_here", "_law_k"], ps := ["_law_found", "_law_due_here"], body := b_l_alike_k22, fe := ⟨2, [], evN (mkG G0 l4) 2 ⟨3, b_l_alike_k22⟩⟩ }
def l5 : List Ent := e5 :: l4
theorem s5 : EntSt G0 l4 e5 := ⟨.inr ⟨⟨rfl, rfl, rfl, by decide +kernel, rfl, by decide +kernel, by decide +kernel⟩, fun n => by kernel_rfl⟩, rfl, fun ds hd => .inr ⟨0, (if_pos hd).symm⟩⟩
theorem t5 {l : List Ent} (h : (mkG G0 l).fn "_law_alike" = some e5.fe) : cAl22 (useFn ((mkG G0 l).fn "_law_alike")) := (congrArg (cAl22) ((congrArg useFn h).trans (useFn_chk (np := 2)))).mpr (l_alike22 (isi l4))
abbrev e6 : Ent := { name := "_law_refused", qual := "_law_refused", st := top 29, N := ["_law_thing", "_law_told", "e", "_law_others"], ps := ["_law_thing"], body := b_l_refused_k22, fe := ⟨1, [], evN (mkG G0 l5) 1 ⟨4, b_l_refused_k22⟩⟩ }
def l6 : List Ent := e6 :: l5
theorem s6 : EntSt G0 l5 e6 := ⟨.inr ⟨⟨rfl, rfl, rfl, by decide +kernel, rfl, by decide +kernel, by decide +kernel⟩, fun n => by kernel_rfl⟩, rfl, fun ds hd => .inr ⟨0, (if_pos hd).symm⟩⟩
theorem t6 {l : List Ent} (h : (mkG G0 l).fn "_law_refused" = some e6.fe) : cRef22 (useFn ((mkG G0 l).fn "_law_refused")) := (congrArg (cRef22) ((congrArg useFn h).trans (useFn_chk (np := 1)))).mpr (l_refused22 (show XT (mkG G0 l5) "NoFlags" from xt_NoFlags) (t3 (l := l5) (by kernel_rfl)))
abbrev e7 : Ent := { name := "law", qual := "law", st := top 30, N := ["_law_script", "_law_flags", "_law_far", "_law_due_here", "_law_found", "_law_thing", "_law_again"], ps := ["_law_script"], body := b_law_k22, fe := ⟨1, [], evN (mkG G0 l6) 1 ⟨7, b_law_k22⟩⟩ }
theorem s7 : EntSt G0 l6 e7 := ⟨.inr ⟨⟨rfl, rfl, rfl, by decide +kernel, rfl, by decide +kernel, by decide +kernel⟩, fun n => by kernel_rfl⟩, rfl, fun ds hd => .inr ⟨0, (if_pos hd).symm⟩⟩
theorem law_phi : ∀ ns : List Int, ns.length ≤ 63 → e7.fe.phi [.lst (ns.map D.int)] = .ok (.bl true) := fun ns hl => law22 (t4 (l := l6) (by kernel_rfl)) (t0 (l := l6) (by kernel_rfl)) (t3 (l := l6) (by kernel_rfl)) (t5 (l := l6) (by kernel_rfl)) (t6 (l := l6) (by kernel_rfl)) hl
theorem wok {K : PySem.W.Frag} {mg : Str → Option Value} {h : Heap} {a_NoFlags : Addr} {a_FoldError : Addr} {a_NoBits : Addr} {a_NoName : Addr} {a_NoNumber : Addr} {a_NoParts : Addr} {a_NoRow : Addr} {a_NoShape : Addr} {a_NoStep : Addr} {a_NoText : Addr} {a_NoWay : Addr} {a_NoWhole : Addr} {a_NoWord : Addr} {t_NEAR : Tok} {t_FAINT : Tok} {t_OVER : Tok} {t_VOID : Tok} {t_ODD : Tok} {a_c_WORDS : Addr} {t_WORDS_0 : Tok} {t_WORDS_1 : Tok} {t_WORDS_2 : Tok} {t_WORDS_3 : Tok} {t_WORDS_4 : Tok} {n_c_WORDS : Nat} {o_c_WORDS : Option Addr} {p_c_WORDS : Array (Option Value)} (X : K.In h) (N : h.Ns mainGlobals mg)
    (z0 : PySem.W.nsIn K mainGlobals "len" = some none)
    (z1 : PySem.W.nsIn K mainGlobals "min" = some none)
    (z2 : PySem.W.nsIn K mainGlobals "max" = some none)
    (z3 : PySem.W.nsIn K mainGlobals "abs" = some none)
    (z4 : PySem.W.nsIn K mainGlobals "int" = some none)
    (z5 : PySem.W.nsIn K mainGlobals "divmod" = some none)
    (z6 : PySem.W.nsIn K mainGlobals "isinstance" = some none)
    (z7 : PySem.W.nsIn K mainGlobals "range" = some none)
    (z8 : PySem.W.nsIn K mainGlobals "enumerate" = some none)
    (z9 : PySem.W.nsIn K mainGlobals "NoneType" = some none)
    (z10 : PySem.W.nsIn K mainGlobals "bool" = some none)
    (z11 : PySem.W.nsIn K mainGlobals "str" = some none)
    (z12 : PySem.W.nsIn K mainGlobals "tuple" = some none)
    (z13 : PySem.W.nsIn K mainGlobals "list" = some none)
    (z14 : PySem.W.nsIn K mainGlobals "type" = some none)
    (z15 : PySem.W.nsIn K mainGlobals "any" = some none)
    (z16 : PySem.W.nsIn K mainGlobals "sum" = some none)
    (z17 : PySem.W.nsIn K mainGlobals "reversed" = some none)
    (z18 : PySem.W.nsIn K mainGlobals "dict" = some none)
    (n_NoFlags : PySem.W.nsIn K mainGlobals "NoFlags" = some (some (.ref a_NoFlags)))
    (n_FoldError : PySem.W.nsIn K mainGlobals "FoldError" = some (some (.ref a_FoldError)))
    (n_NoBits : PySem.W.nsIn K mainGlobals "NoBits" = some (some (.ref a_NoBits)))
    (n_NoName : PySem.W.nsIn K mainGlobals "NoName" = some (some (.ref a_NoName)))
    (n_NoNumber : PySem.W.nsIn K mainGlobals "NoNumber" = some (some (.ref a_NoNumber)))
    (n_NoParts : PySem.W.nsIn K mainGlobals "NoParts" = some (some (.ref a_NoParts)))
    (n_NoRow : PySem.W.nsIn K mainGlobals "NoRow" = some (some (.ref a_NoRow)))
    (n_NoShape : PySem.W.nsIn K mainGlobals "NoShape" = some (some (.ref a_NoShape)))
    (n_NoStep : PySem.W.nsIn K mainGlobals "NoStep" = some (some (.ref a_NoStep)))
    (n_NoText : PySem.W.nsIn K mainGlobals "NoText" = some (some (.ref a_NoText)))
    (n_NoWay : PySem.W.nsIn K mainGlobals "NoWay" = some (some (.ref a_NoWay)))
    (n_NoWhole : PySem.W.nsIn K mainGlobals "NoWhole" = some (some (.ref a_NoWhole)))
    (n_NoWord : PySem.W.nsIn K mainGlobals "NoWord" = some (some (.ref a_NoWord)))
    (n_ValueError : PySem.W.nsIn K mainGlobals "ValueError" = some none)
    (q_NoFlags : PySem.W.excIn K a_NoFlags [.type "ValueError", .type "Exception", .type "BaseException", .type "object"] "ValueError.__new__" = true)
    (x_n : PySem.W.specialIn K (.builtin "object.__class__") "__get__" = some (some (.builtin "getset_descriptor.__get__")))
    (x_t : PySem.W.takesIn K (.builtin "object.__class__") = some true)
    (x_NoFlags_hg : PySem.W.findIn K (.ref a_NoFlags) "__getattribute__" = some (some (.builtin "BaseException.__getattribute__")))
    (x_NoFlags_hb : PySem.W.mroIn K a_NoFlags (.type "BaseException") = some true)
    (x_NoFlags_gn : PySem.W.findIn K (.ref a_NoFlags) "__getattr__" = some none)
    (x_NoFlags_hdct : PySem.W.hasDictIn K a_NoFlags = true)
    (x_NoFlags_ha : PySem.W.findIn K (.ref a_NoFlags) "__class__" = some (some (.builtin "object.__class__")))
    (x_NoFlags_hm : PySem.W.mroIn K a_NoFlags (.type "object") = some true)
    (k_NoFlags_FoldError : PySem.W.kitOne K (.ref a_NoFlags) (.ref a_FoldError) = some true)
    (e_NoFlags_FoldError : PySem.W.exmOne K (.ref a_NoFlags) (.ref a_FoldError) = some true)
    (k_NoFlags_NoBits : PySem.W.kitOne K (.ref a_NoFlags) (.ref a_NoBits) = some false)
    (k_NoFlags_NoName : PySem.W.kitOne K (.ref a_NoFlags) (.ref a_NoName) = some false)
    (k_NoFlags_NoNumber : PySem.W.kitOne K (.ref a_NoFlags) (.ref a_NoNumber) = some false)
    (k_NoFlags_NoParts : PySem.W.kitOne K (.ref a_NoFlags) (.ref a_NoParts) = some false)
    (k_NoFlags_NoRow : PySem.W.kitOne K (.ref a_NoFlags) (.ref a_NoRow) = some false)
    (k_NoFlags_NoShape : PySem.W.kitOne K (.ref a_NoFlags) (.ref a_NoShape) = some false)
    (k_NoFlags_NoStep : PySem.W.kitOne K (.ref a_NoFlags) (.ref a_NoStep) = some false)
    (k_NoFlags_NoText : PySem.W.kitOne K (.ref a_NoFlags) (.ref a_NoText) = some false)
    (k_NoFlags_NoWay : PySem.W.kitOne K (.ref a_NoFlags) (.ref a_NoWay) = some false)
    (k_NoFlags_NoWhole : PySem.W.kitOne K (.ref a_NoFlags) (.ref a_NoWhole) = some false)
    (k_NoFlags_NoWord : PySem.W.kitOne K (.ref a_NoFlags) (.ref a_NoWord) = some false)
    (k_NoFlags_NoFlags : PySem.W.kitOne K (.ref a_NoFlags) (.ref a_NoFlags) = some true)
    (e_NoFlags_NoFlags : PySem.W.exmOne K (.ref a_NoFlags) (.ref a_NoFlags) = some true)
    (k_NoFlags_ValueError : PySem.W.kitOne K (.ref a_NoFlags) (.type "ValueError") = some true)
    (e_NoFlags_ValueError : PySem.W.exmOne K (.ref a_NoFlags) (.type "ValueError") = some true)
    (c_NEAR : PySem.W.nsIn K mainGlobals "NEAR" = some (some (.int 1 t_NEAR)))
    (c_FAINT : PySem.W.nsIn K mainGlobals "FAINT" = some (some (.int 2 t_FAINT)))
    (c_OVER : PySem.W.nsIn K mainGlobals "OVER" = some (some (.int 4 t_OVER)))
    (c_VOID : PySem.W.nsIn K mainGlobals "VOID" = some (some (.int 8 t_VOID)))
    (c_ODD : PySem.W.nsIn K mainGlobals "ODD" = some (some (.int 16 t_ODD)))
    (c_WORDS : PySem.W.nsIn K mainGlobals "WORDS" = some (some (.ref a_c_WORDS)))
    (d_WORDS : K.lookup a_c_WORDS = some ⟨.type "tuple", o_c_WORDS, .seq #[.str "near" t_WORDS_0, .str "faint" t_WORDS_1, .str "over" t_WORDS_2, .str "void" t_WORDS_3, .str "odd" t_WORDS_4] n_c_WORDS, p_c_WORDS⟩) : Wok K mg G0 :=
  wok_mk X N z0 z1 z2 z3 z4 z5 z6 z7 z8 z9 z10 z11 z12 z13 z14 z15 z16 z17 z18 (tbl := tbl) (excs := excs) (cons := cons) (news := news) (AllL.mem (show AllL _ _ from ⟨⟨by decide +kernel, tbl_own X N ⟨.inr ⟨x_NoFlags_hg, x_NoFlags_hb⟩, x_NoFlags_gn, x_NoFlags_hdct, x_NoFlags_ha, x_n, x_t, x_NoFlags_hm⟩ n_NoFlags n_FoldError k_NoFlags_FoldError (fun _ => e_NoFlags_FoldError)⟩, ⟨by decide +kernel, tbl_own X N ⟨.inr ⟨x_NoFlags_hg, x_NoFlags_hb⟩, x_NoFlags_gn, x_NoFlags_hdct, x_NoFlags_ha, x_n, x_t, x_NoFlags_hm⟩ n_NoFlags n_NoBits k_NoFlags_NoBits (fun z => by cases z)⟩, ⟨by decide +kernel, tbl_own X N ⟨.inr ⟨x_NoFlags_hg, x_NoFlags_hb⟩, x_NoFlags_gn, x_NoFlags_hdct, x_NoFlags_ha, x_n, x_t, x_NoFlags_hm⟩ n_NoFlags n_NoName k_NoFlags_NoName (fun z => by cases z)⟩, ⟨by decide +kernel, tbl_own X N ⟨.inr ⟨x_NoFlags_hg, x_NoFlags_hb⟩, x_NoFlags_gn, x_NoFlags_hdct, x_NoFlags_ha, x_n, x_t, x_NoFlags_hm⟩ n_NoFlags n_NoNumber k_NoFlags_NoNumber (fun z => by cases z)⟩, ⟨by decide +kernel, tbl_own X N ⟨.inr ⟨x_NoFlags_hg, x_NoFlags_hb⟩, x_NoFlags_gn, x_NoFlags_hdct, x_NoFlags_ha, x_n, x_t, x_NoFlags_hm⟩ n_NoFlags n_NoParts k_NoFlags_NoParts (fun z => by cases z)⟩, ⟨by decide +kernel, tbl_own X N ⟨.inr ⟨x_NoFlags_hg, x_NoFlags_hb⟩, x_NoFlags_gn, x_NoFlags_hdct, x_NoFlags_ha, x_n, x_t, x_NoFlags_hm⟩ n_NoFlags n_NoRow k_NoFlags_NoRow (fun z => by cases z)⟩, ⟨by decide +kernel, tbl_own X N ⟨.inr ⟨x_NoFlags_hg, x_NoFlags_hb⟩, x_NoFlags_gn, x_NoFlags_hdct, x_NoFlags_ha, x_n, x_t, x_NoFlags_hm⟩ n_NoFlags n_NoShape k_NoFlags_NoShape (fun z => by cases z)⟩, ⟨by decide +kernel, tbl_own X N ⟨.inr ⟨x_NoFlags_hg, x_NoFlags_hb⟩, x_NoFlags_gn, x_NoFlags_hdct, x_NoFlags_ha, x_n, x_t, x_NoFlags_hm⟩ n_NoFlags n_NoStep k_NoFlags_NoStep (fun z => by cases z)⟩, ⟨by decide +kernel, tbl_own X N ⟨.inr ⟨x_NoFlags_hg, x_NoFlags_hb⟩, x_NoFlags_gn, x_NoFlags_hdct, x_NoFlags_ha, x_n, x_t, x_NoFlags_hm⟩ n_NoFlags n_NoText k_NoFlags_NoText (fun z => by cases z)⟩, ⟨by decide +kernel, tbl_own X N ⟨.inr ⟨x_NoFlags_hg, x_NoFlags_hb⟩, x_NoFlags_gn, x_NoFlags_hdct, x_NoFlags_ha, x_n, x_t, x_NoFlags_hm⟩ n_NoFlags n_NoWay k_NoFlags_NoWay (fun z => by cases z)⟩, ⟨by decide +kernel, tbl_own X N ⟨.inr ⟨x_NoFlags_hg, x_NoFlags_hb⟩, x_NoFlags_gn, x_NoFlags_hdct, x_NoFlags_ha, x_n, x_t, x_NoFlags_hm⟩ n_NoFlags n_NoWhole k_NoFlags_NoWhole (fun z => by cases z)⟩, ⟨by decide +kernel, tbl_own X N ⟨.inr ⟨x_NoFlags_hg, x_NoFlags_hb⟩, x_NoFlags_gn, x_NoFlags_hdct, x_NoFlags_ha, x_n, x_t, x_NoFlags_hm⟩ n_NoFlags n_NoWord k_NoFlags_NoWord (fun z => by cases z)⟩, ⟨by decide +kernel, tbl_own X N ⟨.inr ⟨x_NoFlags_hg, x_NoFlags_hb⟩, x_NoFlags_gn, x_NoFlags_hdct, x_NoFlags_ha, x_n, x_t, x_NoFlags_hm⟩ n_NoFlags n_NoFlags k_NoFlags_NoFlags (fun _ => e_NoFlags_NoFlags)⟩, ⟨by decide +kernel, tbl_blt X N ⟨.inr ⟨x_NoFlags_hg, x_NoFlags_hb⟩, x_NoFlags_gn, x_NoFlags_hdct, x_NoFlags_ha, x_n, x_t, x_NoFlags_hm⟩ n_NoFlags n_ValueError (by decide +kernel) (by decide +kernel) k_NoFlags_ValueError (fun _ => e_NoFlags_ValueError)⟩, trivial⟩)) (AllL.mem (show AllL _ _ from ⟨exc_for X N n_NoFlags q_NoFlags, trivial⟩)) (AllL.mem (show AllL _ _ from ⟨⟨.int 1, .int 1 t_NEAR, PySem.W.mg_of X N c_NEAR, ⟨_, rfl⟩, fun _ _ => .int _⟩, ⟨.int 2, .int 2 t_FAINT, PySem.W.mg_of X N c_FAINT, ⟨_, rfl⟩, fun _ _ => .int _⟩, ⟨.int 4, .int 4 t_OVER, PySem.W.mg_of X N c_OVER, ⟨_, rfl⟩, fun _ _ => .int _⟩, ⟨.int 8, .int 8 t_VOID, PySem.W.mg_of X N c_VOID, ⟨_, rfl⟩, fun _ _ => .int _⟩, ⟨.int 16, .int 16 t_ODD, PySem.W.mg_of X N c_ODD, ⟨_, rfl⟩, fun _ _ => .int _⟩, ⟨.ref a_c_WORDS, .ref a_c_WORDS, PySem.W.mg_of X N c_WORDS, rfl, fun _ _ => .tup (xs := [.str "near", .str "faint", .str "over", .str "void", .str "odd"]) (.inr ⟨_, _, _, d_WORDS, rfl, rfl, by show 5 ≤ sizeLine; decide, (.cons ⟨_, rfl⟩ (.cons ⟨_, rfl⟩ (.cons ⟨_, rfl⟩ (.cons ⟨_, rfl⟩ (.cons ⟨_, rfl⟩ .nil)))))⟩) (.cons (.str _) (.cons (.str _) (.cons (.str _) (.cons (.str _) (.cons (.str _) .nil)))))⟩, trivial⟩)) (fun _ z => nomatch z) rfl rfl rfl rfl
def gens : List Str := []
theorem all_ok {Pr : Program} {w : World} {K : PySem.W.Frag} {mg : Str → Option Value} {h : Heap} {fa : Addr} (X : K.In h) (G : h.Ns mainGlobals mg) (hfa : mg "law" = some (.ref fa)) {T : Addr → Prop} (wd : Wok K mg G0) (mo : MthsOk G0 K mg T)
    (h0 : ∃ a fd, EntAt K mg T e0 a fd) (h1 : ∃ a fd, EntAt K mg T e1 a fd) (h2 : ∃ a fd, EntAt K mg T e2 a fd) (h3 : ∃ a fd, EntAt K mg T e3 a fd) (h4 : ∃ a fd, EntAt K mg T e4 a fd) (h5 : ∃ a fd, EntAt K mg T e5 a fd) (h6 : ∃ a fd, EntAt K mg T e6 a fd) (h7 : ∃ a fd, EntAt K mg T e7 a fd ∧ ∀ us : List Value, us.length = e7.ps.length → bindArgs fd ⟨us, []⟩ = pure (e7.ps.zip us)) :
    ∃ fd : FuncData, (∀ (s : Shared) (v : Value), BindsTo s fd ⟨[v], []⟩ [("_law_script", v)]) ∧ ∀ base : Heap, K.In base → base.Ns mainGlobals mg → (∃ bm, BiB base mg bm) → FnOk Pr w K mg base (CXm Pr w) 18 fa fd ["_law_script"] (spL K T) := by
  have tab : AllSt G0 K mg T l6 := ⟨⟨s6, h6⟩, ⟨s5, h5⟩, ⟨s4, h4⟩, ⟨s3, h3⟩, ⟨s2, h2⟩, ⟨s1, h1⟩, ⟨s0, h0⟩, trivial⟩
  obtain ⟨a, fd, h', hb⟩ := h7
  have e := hfa.symm.trans h'.nm
  cases e
  refine ⟨fd, fun s v => ?_, fun base _ _ bi => FnOk.imp (ent_ok wd s7 h'.at' (tab_ok wd mo bi tab) bi) (law_sp law_phi)⟩
  exact .of_eq (hb [v] rfl)
theorem walk {q : Program} {loose : List Str} {XP : (Str → Option Value) → Heap → Prop} {YP : World → Heap → Prop} {d : DefRec} {K : Params → PySem.W.Frag} (hdf : d.params.defaults = []) (hgen : (gens.all fun f => (recsOf q).any fun d => d.name == f) = true)
    (hY : ∀ (w : World) (h : Heap), YP w h → (K w.params).In h) (hK : ∀ w : World, noTab (K w.params) = true)
    (F : ∀ (w : World) (mg : Str → Option Value) (fa : Addr) (h : Heap), (K w.params).In h → h.Ns mainGlobals mg → mg d.name = some (.ref fa) →
      ∃ fd : FuncData, (∀ (s : Shared) (u : Value), BindsTo s fd ⟨[u], []⟩ [("_law_script", u)]) ∧ ∀ base : Heap, (K w.params).In base → base.Ns mainGlobals mg → (∃ bm, BiB base mg bm) → FnOk PySem.Challenge.rw_nearfold_k22_flag_words.prog w (K w.params) mg base (CXm PySem.Challenge.rw_nearfold_k22_flag_words.prog w) 18 fa fd ["_law_script"] (spL (K w.params) (TabOf mg h gens))) :
    PySem.W.WalkO q loose XP YP PySem.Challenge.rw_nearfold_k22_flag_words.row.toRowW d [] (fun f vs => PySem.call f vs) :=
  Nf.walk_ofT (l := PySem.Challenge.rw_nearfold_k22_flag_words) (n := 63) (k := 18) (x := "_law_script") (CX := fun w => CXm PySem.Challenge.rw_nearfold_k22_flag_words.prog w) (sp := fun w T => spL (K w.params) T) (gens := gens) rfl (by decide) hdf ⟨rfl, by decide, by decide⟩ hgen hY hK F (fun _ _ _ a ns hl hT hS => ⟨a, ns, hT, rfl, hS, hl, fun _ h => ⟨rfl, h⟩⟩) fun _ _ _ _ _ ⟨_, _, _, _, _, z⟩ => z
end Nf.K22
open PySem PySem.W PyProof.Rows
set_option Elab.async false
set_option maxRecDepth 100000 in
set_option maxHeartbeats 0 in
theorem PySem.Challenge.cw_nearfold_k22_flag_words_holds : PySem.Challenge.rw_nearfold_k22_flag_words.Holds := by
  w_on; o_law; k_head; (case hw => w_witness2)
  k_fill
  first | refine Nf.K22.walk rfl ?hg (fun w h Y => PySem.W.kIn_of Y) ?hK ?F | refine Nf.K22.walk rfl ?hg (fun w h Y => PySem.W.km_in_of Y) ?hK ?F
  case hg => kernel_rfl
  case hK => intro w; kernel_rfl
  case F =>
    intro w mg fa h KX G hmg
    refine' Nf.K22.all_ok KX G hmg ?wd ?mo ?h0 ?h1 ?h2 ?h3 ?h4 ?h5 ?h6 ?h7
    case mo =>
      refine Nf.mths_of (ml := Nf.K22.ml) rfl ?_
      exact Nf.AllL.mem (show Nf.AllL _ _ from trivial)
    case wd =>
      refine' Nf.K22.wok KX G ?z0 ?z1 ?z2 ?z3 ?z4 ?z5 ?z6 ?z7 ?z8 ?z9 ?z10 ?z11 ?z12 ?z13 ?z14 ?z15 ?z16 ?z17 ?z18 ?n_NoFlags ?n_FoldError ?n_NoBits ?n_NoName ?n_NoNumber ?n_NoParts ?n_NoRow ?n_NoShape ?n_NoStep ?n_NoText ?n_NoWay ?n_NoWhole ?n_NoWord ?n_ValueError ?q_NoFlags ?x_n ?x_t ?x_NoFlags_hg ?x_NoFlags_hb ?x_NoFlags_gn ?x_NoFlags_hdct ?x_NoFlags_ha ?x_NoFlags_hm ?k_NoFlags_FoldError ?e_NoFlags_FoldError ?k_NoFlags_NoBits ?k_NoFlags_NoName ?k_NoFlags_NoNumber ?k_NoFlags_NoParts ?k_NoFlags_NoRow ?k_NoFlags_NoShape ?k_NoFlags_NoStep ?k_NoFlags_NoText ?k_NoFlags_NoWay ?k_NoFlags_NoWhole ?k_NoFlags_NoWord ?k_NoFlags_NoFlags ?e_NoFlags_NoFlags ?k_NoFlags_ValueError ?e_NoFlags_ValueError ?c_NEAR ?c_FAINT ?c_OVER ?c_VOID ?c_ODD ?c_WORDS ?d_WORDS
      (case z0 => k_is)
      (case z1 => k_is)
      (case z2 => k_is)
      (case z3 => k_is)
      (case z4 => k_is)
      (case z5 => k_is)
      (case z6 => k_is)
      (case z7 => k_is)
      (case z8 => k_is)
      (case z9 => k_is)
      (case z10 => k_is)
      (case z11 => k_is)
      (case z12 => k_is)
      (case z13 => k_is)
      (case z14 => k_is)
      (case z15 => k_is)
      (case z16 => k_is)
      (case z17 => k_is)
      (case z18 => k_is)
      (case n_NoFlags => k_is)
      (case n_FoldError => k_is)
      (case n_NoBits => k_is)
      (case n_NoName => k_is)
      (case n_NoNumber => k_is)
      (case n_NoParts => k_is)
      (case n_NoRow => k_is)
      (case n_NoShape => k_is)
      (case n_NoStep => k_is)
      (case n_NoText => k_is)
      (case n_NoWay => k_is)
      (case n_NoWhole => k_is)
      (case n_NoWord => k_is)
      (case n_ValueError => k_is)
      (case q_NoFlags => k_exc)
      (case x_n => k_is)
      (case x_t => k_is)
      (case x_NoFlags_hg => k_is)
      (case x_NoFlags_hb => k_is)
      (case x_NoFlags_gn => k_is)
      (case x_NoFlags_hdct => k_is)
      (case x_NoFlags_ha => k_is)
      (case x_NoFlags_hm => k_is)
      (case k_NoFlags_FoldError => kit_is)
      (case e_NoFlags_FoldError => kts_exm)
      (case k_NoFlags_NoBits => kit_is)
      (case k_NoFlags_NoName => kit_is)
      (case k_NoFlags_NoNumber => kit_is)
      (case k_NoFlags_NoParts => kit_is)
      (case k_NoFlags_NoRow => kit_is)
      (case k_NoFlags_NoShape => kit_is)
      (case k_NoFlags_NoStep => kit_is)
      (case k_NoFlags_NoText => kit_is)
      (case k_NoFlags_NoWay => kit_is)
      (case k_NoFlags_NoWhole => kit_is)
      (case k_NoFlags_NoWord => kit_is)
      (case k_NoFlags_NoFlags => kit_is)
      (case e_NoFlags_NoFlags => kts_exm)
      (case k_NoFlags_ValueError => kit_is)
      (case e_NoFlags_ValueError => kts_exm)
      (case c_NEAR => k_is)
      (case c_FAINT => k_is)
      (case c_OVER => k_is)
      (case c_VOID => k_is)
      (case c_ODD => k_is)
      (case c_WORDS => k_is)
      (case d_WORDS => k_is)
    case h0 =>
      refine' Nf.ent_mk (e := Nf.K22.e0) KX G ?n ?l ?c ?k ?df (Nf.kw_nil rfl) ?gc
      (case n => k_is); (case l => k_is); (case c => k_is); (case k => k_is)
      (case df => exact Nf.df_nil fun us hl => match us, hl with | [_], _ => rfl)
      (case gc => exact fun z => nomatch z)
    case h1 =>
      refine' Nf.ent_mk (e := Nf.K22.e1) KX G ?n ?l ?c ?k ?df (Nf.kw_nil rfl) ?gc
      (case n => k_is); (case l => k_is); (case c => k_is); (case k => k_is)
      (case df => exact Nf.df_nil fun us hl => match us, hl with | [_], _ => rfl)
      (case gc => exact fun z => nomatch z)
    case h2 =>
      refine' Nf.ent_mk (e := Nf.K22.e2) KX G ?n ?l ?c ?k ?df (Nf.kw_nil rfl) ?gc
      (case n => k_is); (case l => k_is); (case c => k_is); (case k => k_is)
      (case df => exact Nf.df_nil fun us hl => match us, hl with | [_, _, _], _ => rfl)
      (case gc => exact fun z => nomatch z)
    case h3 =>
      refine' Nf.ent_mk (e := Nf.K22.e3) KX G ?n ?l ?c ?k ?df (Nf.kw_nil rfl) ?gc
      (case n => k_is); (case l => k_is); (case c => k_is); (case k => k_is)
      (case df => exact Nf.df_nil fun us hl => match us, hl with | [_], _ => rfl)
      (case gc => exact fun z => nomatch z)
    case h4 =>
      refine' Nf.ent_mk (e := Nf.K22.e4) KX G ?n ?l ?c ?k ?df (Nf.kw_nil rfl) ?gc
      (case n => k_is); (case l => k_is); (case c => k_is); (case k => k_is)
      (case df => exact Nf.df_nil fun us hl => match us, hl with | [_, _], _ => rfl)
      (case gc => exact fun z => nomatch z)
    case h5 =>
      refine' Nf.ent_mk (e := Nf.K22.e5) KX G ?n ?l ?c ?k ?df (Nf.kw_nil rfl) ?gc
      (case n => k_is); (case l => k_is); (case c => k_is); (case k => k_is)
      (case df => exact Nf.df_nil fun us hl => match us, hl with | [_, _], _ => rfl)
      (case gc => exact fun z => nomatch z)
    case h6 =>
      refine' Nf.ent_mk (e := Nf.K22.e6) KX G ?n ?l ?c ?k ?df (Nf.kw_nil rfl) ?gc
      (case n => k_is); (case l => k_is); (case c => k_is); (case k => k_is)
      (case df => exact Nf.df_nil fun us hl => match us, hl with | [_], _ => rfl)
      (case gc => exact fun z => nomatch z)
    case h7 =>
      refine' Nf.ent_mkL (e := Nf.K22.e7) KX G ?n ?l ?c ?k ?df rfl (Nf.kw_nil rfl) rfl
      (case n => k_is); (case l => k_is); (case c => k_is); (case k => k_is)
      (case df => exact fun us hl => match us, hl with | [_], _ => rfl)
