import PyProof.Rows.All
import Wide.All
import OpenK.AllK
import Wide.FinOn
import Lean
import PyProof.EqAt
import PyProof.EqKinds
import PyProof.TupleCall
import PySem.Challenge.RW_leastmiss_k32_bent_by_squares_walked
set_option Elab.async false
set_option linter.all false
set_option maxRecDepth 100000
set_option compiler.extract_closed false
namespace L2
open PySem PySem.Spec PyProof.Rows
noncomputable abbrev Key := Sum Int Str
noncomputable def keyIs : Key → Value → Bool
  | .inl k, v => Value.isInt k v
  | .inr x, v => Value.isStrOf x v
noncomputable def keyH (w : World) : Key → Int
  | .inl k => hashInt k
  | .inr x => hashStr w x
theorem keyIs_shape : ∀ {k : Key} {v : Value}, keyIs k v = true → (∃ i t, k = Sum.inl i ∧ v = Value.int i t) ∨ (∃ x t, k = Sum.inr x ∧ v = Value.str x t)
  | .inl i, v, h => by
    obtain ⟨t, e⟩ := Value.isInt_shape (k := i) (v := v) h
    exact .inl ⟨i, t, rfl, e⟩
  | .inr x, v, h => by
    obtain ⟨t, e⟩ := Value.isStrOf_shape (x := x) (v := v) h
    exact .inr ⟨x, t, rfl, e⟩
theorem key_ll (a b : Int) : decide ((Sum.inl a : Key) = Sum.inl b) = (a == b) := by
  by_cases e : a = b
  · subst e; simp
  · have h : ¬ (Sum.inl a : Key) = Sum.inl b := fun q => e (Sum.inl.inj q)
    rw [decide_eq_false h]
    exact (beq_eq_false_iff_ne.mpr e).symm
theorem key_rr (a b : Str) : decide ((Sum.inr a : Key) = Sum.inr b) = decide (a = b) := by
  by_cases e : a = b
  · subst e; simp
  · have h : ¬ (Sum.inr a : Key) = Sum.inr b := fun q => e (Sum.inr.inj q)
    rw [decide_eq_false h, decide_eq_false e]
theorem key_lr (a : Int) (b : Str) : decide ((Sum.inl a : Key) = Sum.inr b) = false := decide_eq_false (fun q => nomatch q)
theorem key_rl (a : Str) (b : Int) : decide ((Sum.inr a : Key) = Sum.inl b) = false := decide_eq_false (fun q => nomatch q)
noncomputable def mixKind (prog : Program) (w : World) : PySem.KeyKind prog w Key where
  is := keyIs
  hash := keyH w
  inj := fun v a b ha hb => by
    rcases keyIs_shape ha with ⟨i, t, rfl, rfl⟩ | ⟨x, t, rfl, rfl⟩
    · rcases keyIs_shape hb with ⟨j, u, rfl, e⟩ | ⟨y, u, rfl, e⟩
      · injection e with e1 _; rw [e1]
      · exact nomatch e
    · rcases keyIs_shape hb with ⟨j, u, rfl, e⟩ | ⟨y, u, rfl, e⟩
      · exact nomatch e
      · injection e with e1 _; rw [e1]
  byValue := fun k v h => by
    rcases keyIs_shape h with ⟨i, t, rfl, rfl⟩ | ⟨x, t, rfl, rfl⟩ <;> rfl
  pyHash := fun hv h => by
    rcases keyIs_shape hv with ⟨i, t, rfl, rfl⟩ | ⟨x, t, rfl, rfl⟩
    · exact wpAny_pyHash_int h
    · exact wpAny_pyHash_str h
  eqBool := fun hu hv h => by
    rcases keyIs_shape hu with ⟨i, t, rfl, rfl⟩ | ⟨x, t, rfl, rfl⟩
    · rcases keyIs_shape hv with ⟨j, u, rfl, rfl⟩ | ⟨y, u, rfl, rfl⟩
      · rw [key_ll] at h; exact wpAny_eqBool_int h
      · rw [key_lr] at h; exact SeqAt.EqAt.int_str i t y u _ _ _ _ h
    · rcases keyIs_shape hv with ⟨j, u, rfl, rfl⟩ | ⟨y, u, rfl, rfl⟩
      · rw [key_rl] at h; exact SeqAt.EqAt.str_int x t j u _ _ _ _ h
      · rw [key_rr] at h; exact wpAny_eqBool_str h
  «strs» := fun k x t v h => by
    rcases keyIs_shape h with ⟨i, u, rfl, e⟩ | ⟨y, u, rfl, e⟩
    · exact nomatch e
    · injection e with e1 _
      subst e1
      cases v <;> rfl
end L2
namespace L2
open PySem PySem.Spec PyProof.Rows
inductive V where
  | non | bl (b : Bool) | int (i : Int) | str (x : Str) | byt (b : Array UInt8) | flt (b : UInt64) | ref (a : Addr) | ty (n : String)
  deriving DecidableEq
noncomputable def RelV : V → Value → Prop
  | .non, u => u = Value.none
  | .bl b, u => u = Value.bool b
  | .int i, u => ∃ t, u = Value.int i t
  | .str x, u => ∃ t, u = Value.str x t
  | .byt b, u => ∃ t, u = Value.bytes b t
  | .flt b, u => ∃ t, u = Value.float b t
  | .ref a, u => u = Value.ref a
  | .ty n, u => u = Value.type n
noncomputable abbrev Vals : List V → List Value → Prop := Paired RelV
theorem Vals.length {xs : List V} {us : List Value} (r : Vals xs us) : xs.length = us.length := Paired.length r
theorem Vals.get : ∀ {xs : List V} {us : List Value} {i : Nat} {x : V}, Vals xs us → xs[i]? = some x → ∃ u, us[i]? = some u ∧ RelV x u
  | _, _, _, _, .nil, e => by simp at e
  | _, _, 0, _, .cons r _, e => by simp at e; subst e; exact ⟨_, rfl, r⟩
  | _, _, i + 1, x, .cons _ t, e => by
    obtain ⟨u, h1, h2⟩ := Vals.get (i := i) (x := x) t (by simpa using e)
    exact ⟨u, by simpa using h1, h2⟩
theorem Vals.set {x : V} {u : Value} (r : RelV x u) : ∀ {xs : List V} {us : List Value} (i : Nat), Vals xs us → Vals (xs.set i x) (us.set i u)
  | _, _, _, .nil => .nil
  | _, _, 0, .cons _ t => .cons r t
  | _, _, i + 1, .cons q t => .cons q (Vals.set r i t)
theorem Vals.append : ∀ {xs ys : List V} {us ws : List Value}, Vals xs us → Vals ys ws → Vals (xs ++ ys) (us ++ ws)
  | _, _, _, _, .nil, s => s
  | _, _, _, _, .cons r t, s => .cons r (Vals.append t s)
theorem Vals.take : ∀ {xs : List V} {us : List Value} (n : Nat), Vals xs us → Vals (xs.take n) (us.take n)
  | _, _, 0, _ => .nil
  | _, _, _ + 1, .nil => .nil
  | _, _, n + 1, .cons r t => .cons r (Vals.take n t)
theorem Vals.drop : ∀ {xs : List V} {us : List Value} (n : Nat), Vals xs us → Vals (xs.drop n) (us.drop n)
  | _, _, 0, r => r
  | _, _, _ + 1, .nil => .nil
  | _, _, n + 1, .cons _ t => Vals.drop n t
noncomputable def RelO : Option V → Option Value → Prop
  | some v, some u => RelV v u
  | none, none => True
  | _, _ => False
noncomputable def KV {κ : Type} : List (κ × V) → List (κ × Value) → Prop := Paired fun (p : κ × V) (q : κ × Value) => p.1 = q.1 ∧ RelV p.2 q.2
noncomputable def kV : Key → V
  | .inl i => .int i
  | .inr x => .str x
inductive HO where
    | lst (xs : List V)
    | tup (xs : List V)
    | dK (kvs : List (Key × V)) | dT (kvs : List (List Key × V))
    | set (S : Int → Bool) (n : Nat)
    | ins (C dx : Addr) (fs : List (Str × V))
    | own (x : Addr)
    | xd (fs : List (Str × V))
    | met (f x : Addr)
    | rng (lo hi : Int)
    | frz (o : Obj) (u : HO)
    | tbl (ps : Array Value)
    | ext (φ : Heap → Prop)
noncomputable abbrev Hp := Addr → Option HO
noncomputable def upd (H : Hp) (a : Addr) (o : HO) : Hp := fun b => if b = a then some o else H b
theorem upd_same {H : Hp} {a : Addr} {o : HO} : upd H a o a = some o := by unfold upd; rw [if_pos rfl]
theorem upd_ne {H : Hp} {a b : Addr} {o : HO} (h : b ≠ a) : upd H a o b = H b := by unfold upd; rw [if_neg h]
theorem ne_of_none {H : Hp} {a b : Addr} {o : HO} (h : H a = some o) (h' : H b = none) : a ≠ b := by
  intro e; subst e; rw [h] at h'; cases h'
section
variable (P : Program) (w : World)
noncomputable def ObjOk (H : Hp) (h : Heap) (a : Addr) : HO → Prop
  | .lst xs => xs.length ≤ sizeLine ∧ ∃ (its : List Value) (n : Nat), Vals xs its ∧ h.get? a = some { cls := .type "list", data := .seq its.toArray n }
  | .tup xs => xs.length ≤ sizeLine ∧ ∃ its : List Value, Vals xs its ∧ IsTup h a its.toArray
  | .dK kvs => kvs.length ≤ sizeLine ∧ (a == sysModules) = false ∧ ∃ vs, KV kvs vs ∧ h.DictOf (mixKind P w) a vs
  | .dT kvs => kvs.length ≤ sizeLine ∧ (a == sysModules) = false ∧ ∃ xs : List (List Key × Addr × Value),
      Paired (fun (p : List Key × V) (q : List Key × Addr × Value) => p.1 = q.1 ∧ H q.2.1 = some (.tup (p.1.map kV)) ∧ RelV p.2 q.2.2) kvs xs ∧
      ∃ o es ep, h.get? a = some o ∧ o.ExactDict ∧ o.data = .dict es ep ∧ es.toList = xs.map (entryOfKey (tupleKind (mixKind P w))) ∧ (xs.map (·.1)).Nodup
  | .set S n => h.SetOf (intKind P w) a S n
  | .ins C dx fs => H dx = some (.own a) ∧ fs.length ≤ 1000 ∧ dx ≠ a ∧ h.get? a = some (PySem.W.instObj C dx) ∧
      ∃ mA, h.Ns1 dx mA ∧ (∀ f, RelO (fs.lookup f) (mA f)) ∧ PySem.Within mA (fs.map (·.1))
  | .own _ => ∃ o, h.get? a = some o
  | .xd fs => ∃ mA, h.Ns1 a mA ∧ ∀ f, RelO (fs.lookup f) (mA f)
  | .rng lo hi => ∃ t u v, h.get? a = some { cls := .type "range", data := .fields #[.int lo t, .int hi u, .int 1 v] }
  | .frz o u => h.get? a = some o ∧ ObjOk H h a u
  | .tbl ps => h.get? a = some { cls := .none, data := .fields ps }
  | .met f x => h.get? a = some (PySem.W.methodObj (.ref f) (.ref x))
  | .ext φ => φ h ∧ (∃ o, h.get? a = some o) ∧ ∀ h1 h2 : Heap, φ h1 → (∀ o, h1.get? a = some o → h2.get? a = some o) → φ h2
noncomputable def HOk (H : Hp) (h : Heap) : Prop := ∀ a o, H a = some o → ObjOk P w H h a o
end
section
variable {P : Program} {w : World} {H H' : Hp} {h h' : Heap} {a : Addr} {o : HO}
theorem ObjOk.lt (x : ObjOk P w H h a o) : a < h.objs.size := by
  cases o with
  | lst xs => obtain ⟨_, _, _, _, e⟩ := x; exact Heap.lt_size e
  | tup xs => obtain ⟨_, _, _, p⟩ := x; exact p.lt
  | dK kvs => obtain ⟨_, _, _, _, o, _, _, e, _⟩ := x; exact Heap.lt_size e
  | dT kvs => obtain ⟨_, _, _, _, o, _, _, e, _⟩ := x; exact Heap.lt_size e
  | set S n => obtain ⟨o, _, _, _, e, _⟩ := x; exact Heap.lt_size e
  | ins C dx fs => obtain ⟨_, _, _, e, _⟩ := x; exact Heap.lt_size e
  | own y => obtain ⟨_, e⟩ := x; exact Heap.lt_size e
  | xd fs => obtain ⟨_, ⟨_, _, _, e, _⟩, _⟩ := x; exact Heap.lt_size e
  | rng lo hi => obtain ⟨_, _, _, e⟩ := x; exact Heap.lt_size e
  | frz ob u => obtain ⟨e, _⟩ := x; exact Heap.lt_size e
  | tbl ps => exact Heap.lt_size (show h.get? a = some _ from x)
  | met f y => exact Heap.lt_size (show h.get? a = some _ from x)
  | ext φ => obtain ⟨_, ⟨_, e⟩, _⟩ := x; exact Heap.lt_size e
theorem Paired.mapP {α β : Type} {F G : α → β → Prop} : ∀ {l₁ : List α} {l₂ : List β}, Paired F l₁ l₂ → (∀ a b, F a b → G a b) → Paired G l₁ l₂
  | _, _, .nil, _ => .nil
  | _, _, .cons r t, f => .cons (f _ _ r) (Paired.mapP t f)
theorem ObjOk.stay (x : ObjOk P w H h a o) (k : ∀ b u, (b = a ∨ H b = some (.own a)) → h.get? b = some u → h'.get? b = some u)
    (ho : ∀ b, H b = some (.own a) → H' b = some (.own a)) (ht : ∀ b xs, H b = some (.tup xs) → H' b = some (.tup xs)) : ObjOk P w H' h' a o := by
  induction o with
  | lst xs => obtain ⟨z, its, n, r, e⟩ := x; exact ⟨z, its, n, r, k _ _ (.inl rfl) e⟩
  | tup xs => obtain ⟨z, its, r, ob, e, c⟩ := x; exact ⟨z, its, r, ob, k _ _ (.inl rfl) e, c⟩
  | dK kvs => obtain ⟨z, y, vs, r, ob, es, ep, e, c⟩ := x; exact ⟨z, y, vs, r, ob, es, ep, k _ _ (.inl rfl) e, c⟩
  | dT kvs =>
    obtain ⟨z, y, xs, r, ob, es, ep, e, c⟩ := x
    exact ⟨z, y, xs, Paired.mapP r fun p q z => ⟨z.1, ht _ _ z.2.1, z.2.2⟩, ob, es, ep, k _ _ (.inl rfl) e, c⟩
  | set S n => obtain ⟨ob, es, ep, t, e, c⟩ := x; exact ⟨ob, es, ep, t, k _ _ (.inl rfl) e, c⟩
  | ins C dx fs =>
    obtain ⟨d, z, ne, e, mA, ⟨od, es, ep, e2, c⟩, r⟩ := x
    exact ⟨ho _ d, z, ne, k _ _ (.inl rfl) e, mA, ⟨od, es, ep, k _ _ (.inr d) e2, c⟩, r⟩
  | own y => obtain ⟨ob, e⟩ := x; exact ⟨ob, k _ _ (.inl rfl) e⟩
  | xd fs => obtain ⟨mA, ⟨od, es, ep, e, c⟩, r⟩ := x; exact ⟨mA, ⟨od, es, ep, k _ _ (.inl rfl) e, c⟩, r⟩
  | rng lo hi => obtain ⟨t, u, v, e⟩ := x; exact ⟨t, u, v, k _ _ (.inl rfl) e⟩
  | frz ob u ih => obtain ⟨e, q⟩ := x; exact ⟨k _ _ (.inl rfl) e, ih q⟩
  | tbl ps =>
    have e : h.get? a = some { cls := .none, data := .fields ps } := x
    show h'.get? a = some { cls := .none, data := .fields ps }
    exact k a _ (.inl rfl) e
  | met f y =>
    have e : h.get? a = some (PySem.W.methodObj (.ref f) (.ref y)) := x
    show h'.get? a = some (PySem.W.methodObj (.ref f) (.ref y))
    exact k a _ (.inl rfl) e
  | ext φ => obtain ⟨p, ⟨o, e⟩, st⟩ := x; exact ⟨st _ _ p fun o q => k _ _ (.inl rfl) q, ⟨o, k _ _ (.inl rfl) e⟩, st⟩
theorem HOk.lt (x : HOk P w H h) (e : H a = some o) : a < h.objs.size := (x a o e).lt
theorem HOk.fresh (x : HOk P w H h) (e : h.objs.size ≤ a) : H a = none := by
  cases q : H a with
  | none => rfl
  | some u => exact absurd (Nat.lt_of_lt_of_le (x.lt q) e) (Nat.lt_irrefl _)
theorem HOk.kept (x : HOk P w H h) (k : ∀ b u, h.get? b = some u → h'.get? b = some u) : HOk P w H h' := fun a o e =>
  (x a o e).stay (fun b u _ q => k b u q) (fun _ q => q) fun _ _ q => q
theorem HOk.laid (x : HOk P w H h) (k : ∀ b u, h.get? b = some u → h'.get? b = some u) (hp : h.objs.size ≤ a) (new : ObjOk P w (upd H a o) h' a o) : HOk P w (upd H a o) h' := fun b u e => by
  have hn := x.fresh hp
  by_cases hb : b = a
  · subst hb; rw [upd_same] at e; cases e; exact new
  · rw [upd_ne hb] at e
    exact (x b u e).stay (fun c v _ q => k c v q) (fun c q => by rw [upd_ne (ne_of_none q hn)]; exact q) fun c xs q => by rw [upd_ne (ne_of_none q hn)]; exact q
end
noncomputable def Rd (H : Hp) (a : Addr) (u : HO) : Prop := H a = some u ∨ ∃ o, H a = some (.frz o u)
theorem Rd.of {H : Hp} {a : Addr} {u : HO} (h : H a = some u) : Rd H a u := .inl h
theorem Rd.ok {P : Program} {w : World} {H : Hp} {h : Heap} {a : Addr} {u : HO} (r : Rd H a u) (x : HOk P w H h) : ObjOk P w H h a u := by
  rcases r with r | ⟨o, r⟩
  · exact x a u r
  · obtain ⟨_, q⟩ := x a _ r
    exact q
noncomputable def Mut : Option HO → Prop
  | some (.lst _) => True
  | some (.dK _) => True
  | some (.dT _) => True
  | some (.set _ _) => True
  | some (.ins _ _ _) => True
  | some (.ext _) => True
  | _ => False
section
variable {P : Program} {w : World} {H : Hp} {h h' : Heap} {x e : Addr} {o' : HO}
theorem HOk.write (ok : HOk P w H h) (mu : Mut (H x)) (he : e = x ∨ H e = some (.own x)) (k : ∀ b u, b ≠ e → h.get? b = some u → h'.get? b = some u) (heo : ∃ u, h'.get? e = some u)
    (new : ObjOk P w (upd H x o') h' x o') : HOk P w (upd H x o') h' := fun b u q => by
  have nown : ∀ c y, H c = some (.own y) → c ≠ x := fun c y r z => by subst z; rw [r] at mu; exact mu
  have ntup : ∀ c xs, H c = some (.tup xs) → c ≠ x := fun c xs r z => by subst z; rw [r] at mu; exact mu
  by_cases hb : b = x
  · subst hb; rw [upd_same] at q; cases q; exact new
  · rw [upd_ne hb] at q
    by_cases hbe : b = e
    · have q' : H b = some (.own x) := by
        rcases he with z | z
        · exact absurd (hbe.trans z) hb
        · rw [hbe]; exact z
      rw [q] at q'; cases q'
      obtain ⟨v, hv⟩ := heo
      exact ⟨v, by rw [hbe]; exact hv⟩
    · refine (ok b u q).stay (fun c v hc r => k c v ?_ r) (fun c r => by rw [upd_ne (nown c b r)]; exact r) fun c xs r => by rw [upd_ne (ntup c xs r)]; exact r
      rcases hc with rfl | hc
      · exact hbe
      · rintro rfl
        rcases he with z | z
        · exact nown c b hc z
        · rw [hc] at z; cases z; exact hb rfl
end
structure Un (fs ex : List Addr) (H H' : Hp) (h h' : Heap) : Prop where
  keep : ∀ b o, h.get? b = some o → H b = none → b ∉ fs → b ∉ ex → h'.get? b = some o
  slot : ∀ b o, h.get? b = some o → H b = none → b ∈ fs → b ∉ ex → ∃ sl, h'.get? b = some { o with slots := sl }
  free : ∀ b o, h.get? b = some o → H b = none → b ∉ ex → H' b = none
  there : ∀ b o, h.get? b = some o → b ∉ ex → ∃ o', h'.get? b = some o'
  tups : ∀ b xs, H b = some (.tup xs) → H' b = some (.tup xs)
  frzs : ∀ b o u, H b = some (.frz o u) → H' b = some (.frz o u)
  tbls : ∀ b ps, H b = some (.tbl ps) → ∃ more, H' b = some (.tbl (ps ++ more))
section
variable {fs fs' ex ex' : List Addr} {H H1 H2 : Hp} {h h1 h2 h' : Heap} {a x e : Addr} {o : HO}
theorem Un.any (u : Un fs ex H H1 h h1) {b : Addr} {ob : Obj} (q : h.get? b = some ob) (n : H b = none) (hx : b ∉ ex) : ∃ sl, h1.get? b = some { ob with slots := sl } := by
  by_cases hb : b ∈ fs
  · exact u.slot b ob q n hb hx
  · exact ⟨ob.slots, u.keep b ob q n hb hx⟩
theorem Un.trans (a : Un fs ex H H1 h h1) (b : Un fs ex H1 H2 h1 h2) : Un fs ex H H2 h h2 where
  keep := fun c ob q n hc hx => b.keep c ob (a.keep c ob q n hc hx) (a.free c ob q n hx) hc hx
  slot := fun c ob q n hc hx => by
    obtain ⟨sl, e1⟩ := a.slot c ob q n hc hx
    obtain ⟨sl', e2⟩ := b.slot c _ e1 (a.free c ob q n hx) hc hx
    exact ⟨sl', e2⟩
  free := fun c ob q n hx => by
    obtain ⟨o', e1⟩ := a.there c ob q hx
    exact b.free c o' e1 (a.free c ob q n hx) hx
  there := fun c ob q hx => by
    obtain ⟨o', e1⟩ := a.there c ob q hx
    exact b.there c o' e1 hx
  tups := fun c xs q => b.tups c xs (a.tups c xs q)
  frzs := fun c ob xs q => b.frzs c ob xs (a.frzs c ob xs q)
  tbls := fun c ps q => by
    obtain ⟨m1, e1⟩ := a.tbls c ps q
    obtain ⟨m2, e2⟩ := b.tbls c _ e1
    exact ⟨m1 ++ m2, by rw [e2, Array.append_assoc]⟩
theorem Un.kept (k : ∀ b u, h.get? b = some u → h'.get? b = some u) : Un fs ex H H h h' :=
  ⟨fun b ob q _ _ _ => k b ob q, fun b ob q _ _ _ => ⟨ob.slots, k b ob q⟩, fun _ _ _ n _ => n, fun b ob q _ => ⟨ob, k b ob q⟩, fun _ _ q => q, fun _ _ _ q => q, fun _ ps q => ⟨#[], by rw [q]; simp⟩⟩
theorem Un.refl : Un fs ex H H h h := Un.kept fun _ _ q => q
theorem Un.laid (k : ∀ b u, h.get? b = some u → h'.get? b = some u) (hp : h.objs.size ≤ a) (hn : H a = none) : Un fs ex H (upd H a o) h h' where
  keep := fun b u q _ _ _ => k b u q
  slot := fun b u q _ _ _ => ⟨u.slots, k b u q⟩
  free := fun b u q n _ => by rw [upd_ne (Nat.ne_of_lt (Nat.lt_of_lt_of_le (Heap.lt_size q) hp))]; exact n
  there := fun b u q _ => ⟨u, k b u q⟩
  tups := fun b xs q => by rw [upd_ne (ne_of_none q hn)]; exact q
  frzs := fun b u xs q => by rw [upd_ne (ne_of_none q hn)]; exact q
  tbls := fun b ps q => ⟨#[], by rw [upd_ne (ne_of_none q hn), q]; simp⟩
theorem Un.write (mu : Mut (H x)) (he : e = x ∨ H e = some (.own x)) (k : ∀ b u, b ≠ e → h.get? b = some u → h'.get? b = some u) (heo : ∃ u, h'.get? e = some u) : Un fs ex H (upd H x o) h h' := by
  have hx : ∀ b, H b = none → b ≠ x := fun b n z => by subst z; rw [n] at mu; exact mu
  have hb : ∀ b, H b = none → b ≠ e := fun b n z => by
    subst z
    rcases he with r | r
    · exact hx b n r
    · rw [n] at r; cases r
  have hm : ∀ b u, H b = some u → ¬ Mut (some u) → b ≠ x := fun b u q nm z => by subst z; rw [q] at mu; exact nm mu
  refine ⟨fun b u q n _ _ => k b u (hb b n) q, fun b u q n _ _ => ⟨u.slots, k b u (hb b n) q⟩, fun b u q n _ => by rw [upd_ne (hx b n)]; exact n, fun b u q _ => ?_,
    fun b xs q => by rw [upd_ne (hm b _ q fun z => z)]; exact q, fun b u xs q => by rw [upd_ne (hm b _ q fun z => z)]; exact q, fun b ps q => ⟨#[], by rw [upd_ne (hm b _ q fun z => z), q]; simp⟩⟩
  by_cases hbe : b = e
  · subst hbe; exact heo
  · exact ⟨u, k b u hbe q⟩
theorem Un.mono (u : Un fs ex H H1 h h1) (hs : ∀ b ∈ fs, b ∈ fs') (hx : ∀ b ∈ ex, b ∈ ex') : Un fs' ex' H H1 h h1 :=
  ⟨fun b ob q n hb he => u.keep b ob q n (fun z => hb (hs b z)) fun z => he (hx b z), fun _ _ q n _ he => u.any q n fun z => he (hx _ z), fun b ob q n he => u.free b ob q n fun z => he (hx b z), fun b ob q he => u.there b ob q fun z => he (hx b z), u.tups, u.frzs, u.tbls⟩
end
noncomputable def trk (h : Heap) (H : Hp) : List Addr := (List.range h.objs.size).filter fun a => (H a).isSome
noncomputable def hidT (h : Heap) (H : Hp) : Heap := PySem.W.hideAll h (trk h H)
theorem hidT_size (h : Heap) (H : Hp) : (hidT h H).objs.size = h.objs.size := PySem.W.hideAll_size _ _
theorem hidT_get {h : Heap} {H : Hp} {b : Addr} {o : Obj} (e : h.get? b = some o) (n : H b = none) : (hidT h H).get? b = some o :=
  PySem.W.hideAll_get _ e fun hm => by
    have q : (H b).isSome = true := (List.mem_filter.mp hm).2
    rw [n] at q; simp at q
theorem of_hidT {h : Heap} {H : Hp} {b : Addr} {o : Obj} (e : (hidT h H).get? b = some o) : h.get? b = some o ∧ H b = none := by
  have e' : h.get? b = some o := PySem.W.of_hideAll (trk h H) e
  refine ⟨e', ?_⟩
  cases q : H b with
  | none => rfl
  | some x =>
    have hm : b ∈ trk h H := List.mem_filter.mpr ⟨List.mem_range.mpr (Heap.lt_size e'), by simp [q]⟩
    have z : (hidT h H).get? b = none := PySem.W.hideAll_none (trk h H) hm
    rw [z] at e; cases e
noncomputable def allNews (g h : Heap) (L : Addr) : List (Addr × Obj) := (List.range h.objs.size).filterMap fun a => if a = L ∨ (g.get? a).isSome = true then none else (h.get? a).map fun o => (a, o)
noncomputable def rest (g h : Heap) (L d : Addr) : List (Addr × Obj) := (allNews g h L).filter fun p => decide (p.1 ≠ d)
end L2
namespace L2
open PySem PySem.Spec PyProof.Rows
structure Mod (K : PySem.W.Frag) (mg : Str → Option Value) (base : Heap) : Prop where
  kin : K.In base
  glob : base.Ns mainGlobals mg
  blt : ∃ mb, base.Ns builtinsNs mb ∧ ∀ x : Str, x ≠ "__name__" → mb x = bootBuiltins x
  nolimit : base.NoLimit
structure Cx where
  prog : Program
  w : World
  K : PySem.W.Frag
  mg : Str → Option Value
  base : Heap
  A : Around
  N : List Str
  s₀ : Shared
  H₀ : Hp
  env : Env
  outer : List Env
  stack : List Env
  ex : List Addr
  fn : Str → Bool
  calm : Bool
  pn : List (Addr × Obj)
  xe : Value → Shared → Prop
noncomputable def frs (l : List Env) : List Addr := l.filterMap (·.frame)
noncomputable abbrev Cx.fs (X : Cx) : List Addr := frs X.outer
noncomputable def Vis (sc : Scope) (x : Str) : Prop := sc.names.lookup x = some .local ∨ sc.names.lookup x = some .cell ∨ sc.names.lookup x = some .free
noncomputable def Loc (sc : Scope) (x : Str) : Prop := sc.names.lookup x = some .local ∨ sc.names.lookup x = some .cell
noncomputable def Look (env : Env) (h : Heap) (m : Str → Option Value) (x : Str) (u : Value) : Prop :=
  (env.kindOf x = some .local ∧ m x = some u) ∨ ((env.kindOf x = some .cell ∨ env.kindOf x = some .free) ∧ ∃ c, env.cells.lookup x = some c ∧ h.IsCell c (some u))
structure Cx.Ok (X : Cx) : Prop where
  mod : Mod X.K X.mg X.base
  kind : X.env.scope.kind = .function
  glob : X.env.globals = mainGlobals
  blt : X.env.builtins = builtinsNs
  above : X.s₀.heap.objs.size ≤ X.env.locals
  inj : ∀ x y c, X.env.cells.lookup x = some c → X.env.cells.lookup y = some c → x = y
  has : ∀ x, (X.env.kindOf x = some .cell ∨ X.env.kindOf x = some .free) → ∃ c, X.env.cells.lookup x = some c
  cab : ∀ x c, X.fn x = true → X.env.cells.lookup x = some c → X.s₀.heap.objs.size ≤ c
  hd : X.calm = true → X.A.handled = none
  frames : X.A.frames = some X.stack
  stk : X.stack = X.outer ∨ (X.stack = X.env :: X.outer ∧ X.env.frame = some X.env.locals)
  exf : ∀ b ∈ X.ex, b ≠ X.env.locals ∧ ∀ x c, X.env.cells.lookup x = some c → c ≠ b
  bs : ∀ b o, X.base.get? b = some o → X.s₀.heap.get? b = some o ∧ X.H₀ b = none
  bsz : X.base.objs.size ≤ X.s₀.heap.objs.size
  noex : ∀ b o, X.base.get? b = some o → b ∉ X.ex
  exfs : ∀ b ∈ X.ex, b ∉ X.fs
  funs : X.s₀.heap.FunFrames X.base X.outer
  frf : ∀ b ∈ X.fs, X.H₀ b = none
structure Inv (X : Cx) (pins : List (Addr × Obj)) (σ : List (Option V)) (H : Hp) (s : Shared) : Prop where
  ok : X.Ok
  os : s.os = X.s₀.os
  bare : AllBare s.gens
  base : Un X.fs X.ex X.H₀ H X.s₀.heap s.heap
  loc : ∃ m, s.heap.Ns X.env.locals m ∧ ∀ (i : Nat) (x : Str) (v : V), X.N[i]? = some x → σ[i]? = some (some v) → Vis X.env.scope x → ∃ u, RelV v u ∧ Look X.env s.heap m x u
  cell : ∀ x c, X.env.cells.lookup x = some c → ∃ v, s.heap.IsCell c v
  free : H X.env.locals = none
  freeC : ∀ x c, X.env.cells.lookup x = some c → H c = none
  pin : ∀ p ∈ X.pn ++ pins, s.heap.get? p.1 = some p.2 ∧ H p.1 = none ∧ p.1 ≠ X.env.locals ∧ p.1 ∉ X.fs ∧ ∀ v, p.2.data ≠ .cell v
  hok : HOk X.prog X.w H s.heap
  len : σ.length = X.N.length
section
variable {X : Cx} {pins : List (Addr × Obj)} {σ : List (Option V)} {H H' : Hp} {s : Shared} {h' : Heap}
theorem Cx.Ok.nofr (ok : X.Ok) {b : Addr} {o : Obj} (e : X.base.get? b = some o) : b ∉ X.fs := fun hb => by
  have := (ok.funs.mem hb).1
  rw [e] at this; cases this
theorem Inv.bs (I : Inv X pins σ H s) : ∀ b o, X.base.get? b = some o → s.heap.get? b = some o ∧ H b = none := fun b o e =>
  ⟨I.base.keep b o (I.ok.bs b o e).1 (I.ok.bs b o e).2 (I.ok.nofr e) (I.ok.noex b o e), I.base.free b o (I.ok.bs b o e).1 (I.ok.bs b o e).2 (I.ok.noex b o e)⟩
theorem Inv.bk (I : Inv X pins σ H s) : ∀ b o, X.base.get? b = some o → s.heap.get? b = some o := fun b o e => (I.bs b o e).1
theorem Inv.mod (I : Inv X pins σ H s) : Mod X.K X.mg X.base := I.ok.mod
theorem Inv.kIn (I : Inv X pins σ H s) : X.K.In s.heap := I.ok.mod.kin.keeps I.bk
theorem Inv.nolimit (I : Inv X pins σ H s) : s.heap.NoLimit := I.ok.mod.nolimit.keeps I.bk
theorem Inv.fr (I : Inv X pins σ H s) : ∃ m, Fr X.base X.env.locals s.heap m :=
  let ⟨m, hn, _⟩ := I.loc
  ⟨m, hn, I.bk, Nat.le_trans I.ok.bsz I.ok.above⟩
theorem Inv.lt (I : Inv X pins σ H s) : X.env.locals < s.heap.objs.size := let ⟨_, hn, _⟩ := I.loc; hn.lt
theorem Inv.sz (I : Inv X pins σ H s) : X.s₀.heap.objs.size ≤ s.heap.objs.size := Nat.le_trans I.ok.above (Nat.le_of_lt I.lt)
theorem Inv.nofs (I : Inv X pins σ H s) {a : Addr} (h : s.heap.objs.size ≤ a) : a ∉ X.fs := fun hb => by
  obtain ⟨_, o, ho, _⟩ := I.ok.funs.mem hb
  exact absurd (Nat.lt_of_lt_of_le (Heap.lt_size ho) (Nat.le_trans I.sz h)) (Nat.lt_irrefl _)
theorem Inv.cne (I : Inv X pins σ H s) : ∀ x c, X.env.cells.lookup x = some c → c ≠ X.env.locals := fun x c e z => by
  obtain ⟨v, o, ho, hd⟩ := I.cell x c e
  obtain ⟨m, ⟨o', es, ep, ho', hd', _⟩, _⟩ := I.loc
  rw [z, ho'] at ho; cases ho; rw [hd'] at hd; cases hd
theorem Inv.funs (I : Inv X pins σ H s) : s.heap.FunFrames X.base X.outer := by
  have all : ∀ (l : List Env), (∀ b ∈ frs l, b ∈ X.fs) → X.s₀.heap.FunFrames X.base l → s.heap.FunFrames X.base l := by
    intro l
    induction l with
    | nil => intro _ _; trivial
    | cons env r ih =>
      intro hs hl
      obtain ⟨hk, ⟨L, o, hf, hn, ho, hd⟩, hr⟩ := hl
      have hL : L ∈ X.fs := hs L (by unfold frs; rw [List.filterMap_cons, hf]; exact List.mem_cons_self)
      obtain ⟨sl, e⟩ := I.base.slot L o ho (I.ok.frf L hL) hL fun z => I.ok.exfs L z hL
      exact ⟨hk, ⟨L, _, hf, hn, e, hd⟩, ih (fun b hb => hs b (by unfold frs; rw [List.filterMap_cons, hf]; exact List.mem_cons_of_mem _ hb)) hr⟩
  exact all X.outer (fun _ hb => hb) I.ok.funs
theorem Inv.stack (I : Inv X pins σ H s) : s.heap.FunFrames X.base X.stack := by
  rcases I.ok.stk with e | ⟨e, hf⟩
  · rw [e]; exact I.funs
  · rw [e]
    obtain ⟨m, hn, _⟩ := I.loc
    refine .cons (by rw [I.ok.kind]; decide) hf hn ?_ I.funs
    exact Heap.get?_none_of_le (Nat.le_trans I.ok.bsz I.ok.above)
theorem Inv.stkSub (I : Inv X pins σ H s) : ∀ b ∈ frs X.stack, b ∈ X.env.locals :: X.fs := fun b hb => by
  rcases I.ok.stk with e | ⟨e, hf⟩
  · rw [e] at hb; exact List.mem_cons_of_mem _ hb
  · rw [e] at hb
    unfold frs at hb
    rw [List.filterMap_cons, hf] at hb
    exact hb
theorem Inv.stkFree (I : Inv X pins σ H s) : ∀ b ∈ frs X.stack, H b = none := fun b hb => by
  rcases List.mem_cons.mp (I.stkSub b hb) with e | hb
  · rw [e]; exact I.free
  · obtain ⟨_, o, ho, _⟩ := I.ok.funs.mem hb
    exact I.base.free b o ho (I.ok.frf b hb) fun z => I.ok.exfs b z hb
theorem Inv.step {g' : Array GenState} {t' : Nat} {d' : Drawn} {ch : List Addr} (I : Inv X pins σ H s)
    (hch : ∀ b ∈ ch, (b ∈ X.ex ∨ X.s₀.heap.objs.size ≤ b) ∧ b ≠ X.env.locals ∧ (∀ x c, X.env.cells.lookup x = some c → c ≠ b) ∧ ∀ p ∈ X.pn ++ pins, p.1 ≠ b)
    (keep : ∀ b o, b ≠ X.env.locals → b ∉ X.fs → b ∉ ch → s.heap.get? b = some o → H b = none → h'.get? b = some o)
    (slot : ∀ b o, b ≠ X.env.locals → b ∈ X.fs → b ∉ ch → s.heap.get? b = some o → H b = none → ∃ sl, h'.get? b = some { o with slots := sl }) (free : ∀ b o, b ∉ ch → s.heap.get? b = some o → H b = none → H' b = none)
    (there : ∀ b o, b ∉ ch → s.heap.get? b = some o → ∃ o', h'.get? b = some o')
    (tups : ∀ b xs, H b = some (.tup xs) → H' b = some (.tup xs)) (frzs : ∀ b o u, H b = some (.frz o u) → H' b = some (.frz o u)) (tbls : ∀ b ps, H b = some (.tbl ps) → ∃ more, H' b = some (.tbl (ps ++ more)))
    (ns : ∀ m, s.heap.Ns X.env.locals m → h'.Ns X.env.locals m) (hok : HOk X.prog X.w H' h') (hg : AllBare g') :
    Inv X pins σ H' { s with heap := h', gens := g', drawn := d', toks := t' } := by
  have neL : ∀ b o, X.s₀.heap.get? b = some o → b ≠ X.env.locals := fun b o e => Nat.ne_of_lt (Nat.lt_of_lt_of_le (Heap.lt_size e) I.ok.above)
  have neC : ∀ b o, X.s₀.heap.get? b = some o → b ∉ X.ex → b ∉ ch := fun b o e hx hb => by
    rcases (hch b hb).1 with z | z
    · exact hx z
    · exact absurd (Nat.lt_of_lt_of_le (Heap.lt_size e) z) (Nat.lt_irrefl _)
  have cellK : ∀ x c, X.env.cells.lookup x = some c → ∀ v, s.heap.IsCell c v → h'.IsCell c v := fun x c e v ⟨o, ho, hd⟩ => by
    have nch : c ∉ ch := fun z => (hch c z).2.2.1 x c e rfl
    by_cases hc : c ∈ X.fs
    · obtain ⟨sl, q⟩ := slot c o (I.cne x c e) hc nch ho (I.freeC x c e)
      exact ⟨_, q, hd⟩
    · exact ⟨o, keep c o (I.cne x c e) hc nch ho (I.freeC x c e), hd⟩
  refine ⟨I.ok, I.os, hg, ⟨fun b o e n hb hx => ?_, fun b o e n hb hx => ?_, fun b o e n hx => ?_, fun b o e hx => ?_, fun b xs e => tups b xs (I.base.tups b xs e), fun b o xs e => frzs b o xs (I.base.frzs b o xs e), fun b ps e => ?_⟩, ?_, fun x c e => ?_, ?_, fun x c e => ?_, fun p hp => ?_, hok, I.len⟩
  · exact keep b o (neL b o e) hb (neC b o e hx) (I.base.keep b o e n hb hx) (I.base.free b o e n hx)
  · obtain ⟨sl, e1⟩ := I.base.slot b o e n hb hx
    obtain ⟨sl', e2⟩ := slot b _ (neL b o e) hb (neC b o e hx) e1 (I.base.free b o e n hx)
    exact ⟨sl', e2⟩
  · obtain ⟨o', e1⟩ := I.base.there b o e hx
    exact free b o' (neC b o e hx) e1 (I.base.free b o e n hx)
  · obtain ⟨o', e1⟩ := I.base.there b o e hx
    exact there b o' (neC b o e hx) e1
  · obtain ⟨m1, e1⟩ := I.base.tbls b ps e
    obtain ⟨m2, e2⟩ := tbls b _ e1
    exact ⟨m1 ++ m2, by rw [e2, Array.append_assoc]⟩
  · obtain ⟨m, hn, hl⟩ := I.loc
    refine ⟨m, ns m hn, fun i x v e1 e2 e3 => ?_⟩
    obtain ⟨u, r, l⟩ := hl i x v e1 e2 e3
    refine ⟨u, r, ?_⟩
    rcases l with l | ⟨k, c, e, z⟩
    · exact .inl l
    · exact .inr ⟨k, c, e, cellK x c e _ z⟩
  · obtain ⟨v, z⟩ := I.cell x c e
    exact ⟨v, cellK x c e v z⟩
  · obtain ⟨m, ⟨o, _, _, ho, _⟩, _⟩ := I.loc
    exact free _ o (fun z => (hch _ z).2.1 rfl) ho I.free
  · obtain ⟨v, o, ho, hd⟩ := I.cell x c e
    exact free c o (fun z => (hch c z).2.2.1 x c e rfl) ho (I.freeC x c e)
  · obtain ⟨e, n, ne, nf, d⟩ := I.pin p hp
    have nch : p.1 ∉ ch := fun z => (hch p.1 z).2.2.2 p hp rfl
    exact ⟨keep p.1 p.2 ne nf nch e n, free p.1 p.2 nch e n, ne, nf, d⟩
theorem Inv.un {t' : Nat} (I : Inv X pins σ H s) (u : Un X.fs [] H H' s.heap h') (hok : HOk X.prog X.w H' h') : Inv X pins σ H' { s with heap := h', toks := t' } := by
  obtain ⟨m, ⟨o, es, ep, ho, r⟩, _⟩ := id I.loc
  obtain ⟨sl, hL⟩ := u.any ho I.free (by simp)
  exact I.step (g' := s.gens) (d' := s.drawn) (ch := []) (fun _ z => nomatch z) (fun b o _ hb _ e n => u.keep b o e n hb (by simp)) (fun b o _ hb _ e n => u.slot b o e n hb (by simp)) (fun b o _ e n => u.free b o e n (by simp)) (fun b o _ e => u.there b o e (by simp)) u.tups u.frzs u.tbls (fun m' hm => by
    obtain ⟨o', es', ep', ho', r'⟩ := hm
    rw [ho] at ho'; cases ho'
    exact ⟨_, es', ep', hL, r'⟩) hok I.bare
theorem Inv.call {g' : Array GenState} {t' : Nat} {d' : Drawn} {ch : List Addr} (I : Inv X pins σ H s) (u : Un (frs X.stack) ch H H' s.heap h') (hok : HOk X.prog X.w H' h') (hg : AllBare g')
    (hch : ∀ b ∈ ch, (b ∈ X.ex ∨ X.s₀.heap.objs.size ≤ b) ∧ b ≠ X.env.locals ∧ (∀ x c, X.env.cells.lookup x = some c → c ≠ b) ∧ ∀ p ∈ X.pn ++ pins, p.1 ≠ b) :
    Inv X pins σ H' { s with heap := h', gens := g', drawn := d', toks := t' } := by
  obtain ⟨m, ⟨o, es, ep, ho, r⟩, _⟩ := id I.loc
  obtain ⟨sl, hL⟩ := u.any ho I.free fun z => (hch _ z).2.1 rfl
  exact I.step (ch := ch) hch (fun b o hL hb hc e n => u.keep b o e n (fun z => (List.mem_cons.mp (I.stkSub b z)).elim hL hb) hc) (fun b o _ _ hc e n => u.any e n hc) (fun b o hc e n => u.free b o e n hc) (fun b o hc e => u.there b o e hc) u.tups u.frzs u.tbls (fun m' hm => by
    obtain ⟨o', es', ep', ho', r'⟩ := hm
    rw [ho] at ho'; cases ho'
    exact ⟨_, es', ep', hL, r'⟩) hok hg
theorem Inv.turned {t' : Nat} {it : Addr} (I : Inv X pins σ H s) (k : ∀ b o, b ≠ it → s.heap.get? b = some o → h'.get? b = some o) (hn : H it = none) (hL : it ≠ X.env.locals)
    (h1 : it ∈ X.ex ∨ X.s₀.heap.objs.size ≤ it) (h2 : ∀ x c, X.env.cells.lookup x = some c → c ≠ it) (h3 : ∀ p ∈ X.pn ++ pins, p.1 ≠ it) : Inv X pins σ H { s with heap := h', toks := t' } := by
  have nit : ∀ b u, H b = some u → b ≠ it := fun b u e z => by rw [z, hn] at e; cases e
  refine I.step (g' := s.gens) (d' := s.drawn) (ch := [it]) (fun b hb => ?_) (fun b o _ _ hc e _ => k b o (fun z => hc (by simp [z])) e) (fun b o _ _ hc e _ => ⟨o.slots, k b o (fun z => hc (by simp [z])) e⟩) (fun _ _ _ _ n => n)
    (fun b o hc e => ⟨o, k b o (fun z => hc (by simp [z])) e⟩) (fun _ _ e => e) (fun _ _ _ e => e) (fun b ps e => ⟨#[], by rw [e]; simp⟩) (fun m hm => ?_) (fun b u e => ?_) I.bare
  · have e : b = it := by simpa using hb
    subst e
    exact ⟨h1, hL, h2, h3⟩
  · obtain ⟨o, es, ep, ho, r⟩ := hm
    exact ⟨o, es, ep, k _ o (Ne.symm hL) ho, r⟩
  · refine (I.hok b u e).stay (fun c v hc q => k c v ?_ q) (fun _ q => q) fun _ _ q => q
    rcases hc with z | z
    · rw [z]; exact nit b u e
    · exact nit c _ z
theorem Inv.tok (I : Inv X pins σ H s) (t : Nat) : Inv X pins σ H { s with toks := t } := I.un (h' := s.heap) (t' := t) Un.refl I.hok
theorem Inv.kept {t' : Nat} (I : Inv X pins σ H s) (k : ∀ b u, s.heap.get? b = some u → h'.get? b = some u) : Inv X pins σ H { s with heap := h', toks := t' } := I.un (Un.kept k) (I.hok.kept k)
theorem Inv.laid {a : Addr} {o : HO} {t' : Nat} (I : Inv X pins σ H s) (k : ∀ b u, s.heap.get? b = some u → h'.get? b = some u) (hp : s.heap.objs.size ≤ a) (new : ObjOk X.prog X.w (upd H a o) h' a o) :
    Inv X pins σ (upd H a o) { s with heap := h', toks := t' } := I.un (Un.laid k hp (I.hok.fresh hp)) (I.hok.laid k hp new)
theorem Inv.write {x e : Addr} {o : HO} {t' : Nat} (I : Inv X pins σ H s) (mu : Mut (H x)) (he : e = x ∨ H e = some (.own x)) (k : ∀ b u, b ≠ e → s.heap.get? b = some u → h'.get? b = some u) (heo : ∃ u, h'.get? e = some u)
    (new : ObjOk X.prog X.w (upd H x o) h' x o) : Inv X pins σ (upd H x o) { s with heap := h', toks := t' } := I.un (Un.write mu he k heo) (I.hok.write mu he k heo new)
theorem Inv.pins_of {pins' : List (Addr × Obj)} (I : Inv X pins σ H s) (h : ∀ p ∈ pins', s.heap.get? p.1 = some p.2 ∧ H p.1 = none ∧ p.1 ≠ X.env.locals ∧ p.1 ∉ X.fs ∧ ∀ v, p.2.data ≠ .cell v) : Inv X pins' σ H s :=
  ⟨I.ok, I.os, I.bare, I.base, I.loc, I.cell, I.free, I.freeC, fun p hp => (List.mem_append.mp hp).elim (fun z => I.pin p (List.mem_append_left _ z)) (h p), I.hok, I.len⟩
theorem nodup_ix {N : List Str} (hN : N.Nodup) {i j : Nat} {x : Str} (a : N[i]? = some x) (b : N[j]? = some x) : i = j := by
  obtain ⟨h1, e1⟩ := List.getElem?_eq_some_iff.mp a
  obtain ⟨h2, e2⟩ := List.getElem?_eq_some_iff.mp b
  exact (List.getElem_inj hN).mp (e1.trans e2.symm)
theorem store_ok2 {M : Model} {A : Around} {E : Value → Shared → Prop} {i : Nat} {x : Str} {v : V} {u : Value} {Q : Unit → Shared → Prop} (I : Inv X pins σ H s) (hN : X.N.Nodup) (hi : X.N[i]? = some x) (hx : Loc X.env.scope x) (r : RelV v u)
    (h : ∀ s', Inv X pins (σ.set i (some v)) H s' → (∃ a, Heap.SameBut a s.heap s'.heap ∧ (a = X.env.locals ∨ X.env.cells.lookup x = some a)) → Q () s') (hf : X.fn x = true ∨ X.env.scope.names.lookup x = some .local := by first | exact .inl rfl | exact .inr rfl | assumption) : wpAny M A (storeName X.env x u) Q E s := by
  obtain ⟨m, hn, hl⟩ := id I.loc
  have hcls : (X.env.scope.kind == .class || (X.env.scope.kind == .module && X.env.locals != X.env.globals)) = false := by rw [I.ok.kind]; rfl
  have hiσ : i < σ.length := by rw [I.len]; exact (List.getElem?_eq_some_iff.mp hi).1
  have cne := I.cne
  have tracked : ∀ {a : Addr} {h' : Heap}, (∃ o, s.heap.get? a = some o ∧ H a = none) → Heap.SameBut a s.heap h' → HOk X.prog X.w H h' := fun {a h'} ha hs b ob e => by
    obtain ⟨_, _, hfree⟩ := ha
    refine (I.hok b ob e).stay (fun c w' hc q => (hs.2 c ?_).trans q) (fun _ q => q) fun _ _ q => q
    rintro rfl
    rcases hc with rfl | hc
    · rw [hfree] at e; cases e
    · rw [hfree] at hc; cases hc
  rcases hx with hk | hk
  · refine wpAny_storeName_local hk hn (fun h' hn' hs => ?_) hcls
    obtain ⟨oL, _, _, hoL, _⟩ := id hn
    refine h _ ⟨I.ok, I.os, I.bare, ⟨fun b o e n hb hx => ?_, fun b o e n hb hx => ?_, I.base.free, fun b o e hx => ?_, I.base.tups, I.base.frzs, I.base.tbls⟩, ⟨_, hn', fun j y v' e1 e2 e3 => ?_⟩, fun y c e => ?_, I.free, I.freeC, fun p hp => ?_, tracked ⟨oL, hoL, I.free⟩ hs, by simpa using I.len⟩ ⟨_, hs, .inl rfl⟩
    · exact (hs.2 b (Nat.ne_of_lt (Nat.lt_of_lt_of_le (Heap.lt_size e) I.ok.above))).trans (I.base.keep b o e n hb hx)
    · obtain ⟨sl, e1⟩ := I.base.slot b o e n hb hx
      exact ⟨sl, (hs.2 b (Nat.ne_of_lt (Nat.lt_of_lt_of_le (Heap.lt_size e) I.ok.above))).trans e1⟩
    · obtain ⟨o', e1⟩ := I.base.there b o e hx
      exact ⟨o', (hs.2 b (Nat.ne_of_lt (Nat.lt_of_lt_of_le (Heap.lt_size e) I.ok.above))).trans e1⟩
    · by_cases hj : j = i
      · subst hj
        rw [hi] at e1; cases e1
        rw [List.getElem?_set_self hiσ] at e2
        cases e2
        exact ⟨u, r, .inl ⟨hk, by simp⟩⟩
      · rw [List.getElem?_set_ne (Ne.symm hj)] at e2
        obtain ⟨u', r', q⟩ := hl j y v' e1 e2 e3
        refine ⟨u', r', ?_⟩
        rcases q with ⟨k, e⟩ | ⟨k, c, e, z⟩
        · refine .inl ⟨k, ?_⟩
          have : y ≠ x := fun e => hj (nodup_ix hN e1 (e ▸ hi))
          simp [this, e]
        · exact .inr ⟨k, c, e, z.sameBut hs (cne y c e)⟩
    · obtain ⟨w', z⟩ := I.cell y c e
      exact ⟨w', z.sameBut hs (cne y c e)⟩
    · obtain ⟨e, n, ne, nf, d⟩ := I.pin p hp
      exact ⟨(hs.2 p.1 ne).trans e, n, ne, nf, d⟩
  · have hfn : X.fn x = true := by
      rcases hf with z | z
      · exact z
      · rw [z] at hk; cases hk
    obtain ⟨c, hc⟩ := I.ok.has x (.inl hk)
    obtain ⟨w', z⟩ := I.cell x c hc
    refine wpAny_storeName_cell I.ok.kind hk hc z (fun h' hc' hs => ?_)
    obtain ⟨oc, hoc, hocd⟩ := id z
    refine h { s with heap := h' } ⟨I.ok, I.os, I.bare, ⟨fun b o e n hb hx => ?_, fun b o e n hb hx => ?_, I.base.free, fun b o e hx => ?_, I.base.tups, I.base.frzs, I.base.tbls⟩, ⟨m, hn.sameBut hs (Ne.symm (cne x c hc)), fun j y v' e1 e2 e3 => ?_⟩, fun y c' e => ?_, I.free, I.freeC, fun p hp => ?_, tracked ⟨oc, hoc, I.freeC x c hc⟩ hs, by simpa using I.len⟩ ⟨c, hs, .inr hc⟩
    · exact (hs.2 b (Nat.ne_of_lt (Nat.lt_of_lt_of_le (Heap.lt_size e) (I.ok.cab x c hfn hc)))).trans (I.base.keep b o e n hb hx)
    · obtain ⟨sl, e1⟩ := I.base.slot b o e n hb hx
      exact ⟨sl, (hs.2 b (Nat.ne_of_lt (Nat.lt_of_lt_of_le (Heap.lt_size e) (I.ok.cab x c hfn hc)))).trans e1⟩
    · obtain ⟨o', e1⟩ := I.base.there b o e hx
      exact ⟨o', (hs.2 b (Nat.ne_of_lt (Nat.lt_of_lt_of_le (Heap.lt_size e) (I.ok.cab x c hfn hc)))).trans e1⟩
    · by_cases hj : j = i
      · subst hj
        rw [hi] at e1; cases e1
        rw [List.getElem?_set_self hiσ] at e2
        cases e2
        exact ⟨u, r, .inr ⟨.inl hk, c, hc, hc'⟩⟩
      · rw [List.getElem?_set_ne (Ne.symm hj)] at e2
        obtain ⟨u', r', q⟩ := hl j y v' e1 e2 e3
        refine ⟨u', r', ?_⟩
        rcases q with q | ⟨k, c', e, z'⟩
        · exact .inl q
        · refine .inr ⟨k, c', e, z'.sameBut hs ?_⟩
          rintro rfl
          exact hj (nodup_ix hN e1 (I.ok.inj _ _ _ e hc ▸ hi))
    · by_cases hcc : c' = c
      · subst hcc; exact ⟨_, hc'⟩
      · obtain ⟨w2, z2⟩ := I.cell y c' e
        exact ⟨w2, z2.sameBut hs hcc⟩
    · obtain ⟨e, n, ne, nf, d⟩ := I.pin p hp
      refine ⟨(hs.2 p.1 ?_).trans e, n, ne, nf, d⟩
      intro q
      rw [q, hoc] at e
      have q' : oc = p.2 := Option.some.inj e
      exact d w' (by rw [← q']; exact hocd)
theorem store_ok {M : Model} {A : Around} {E : Value → Shared → Prop} {i : Nat} {x : Str} {v : V} {u : Value} {Q : Unit → Shared → Prop} (I : Inv X pins σ H s) (hN : X.N.Nodup) (hi : X.N[i]? = some x) (hx : Loc X.env.scope x) (r : RelV v u)
    (h : ∀ s', Inv X pins (σ.set i (some v)) H s' → Q () s') (hf : X.fn x = true ∨ X.env.scope.names.lookup x = some .local := by first | exact .inl rfl | exact .inr rfl | assumption) : wpAny M A (storeName X.env x u) Q E s :=
  store_ok2 I hN hi hx r (fun s' I' _ => h s' I') hf
theorem Inv.call' {s' : Shared} {ch : List Addr} (I : Inv X pins σ H s) (ho : s'.os = s.os) (u : Un (frs X.stack) ch H H' s.heap s'.heap) (hok : HOk X.prog X.w H' s'.heap) (hg : AllBare s'.gens)
    (hch : ∀ b ∈ ch, (b ∈ X.ex ∨ X.s₀.heap.objs.size ≤ b) ∧ b ≠ X.env.locals ∧ (∀ x c, X.env.cells.lookup x = some c → c ≠ b) ∧ ∀ p ∈ X.pn ++ pins, p.1 ≠ b) : Inv X pins σ H' s' := by
  obtain ⟨h', g', d', t', o'⟩ := s'
  have e : o' = s.os := ho
  subst e
  exact I.call (g' := g') (t' := t') (d' := d') u hok hg hch
end
noncomputable abbrev XK := Value → Option Addr → Hp → Prop
noncomputable abbrev St := List (Option V)
noncomputable abbrev VK := V → Hp → Prop
noncomputable abbrev TE := St → Hp → VK → Prop
noncomputable abbrev TT := St → Hp → (Bool → Hp → Prop) → Prop
noncomputable abbrev TA := St → Hp → (List V → Hp → Prop) → Prop
structure Ends where
  nx : St → Hp → Prop
  rt : VK
  bk : St → Hp → Prop := fun _ _ => False
  ct : St → Hp → Prop := fun _ _ => False
noncomputable abbrev TS := Ends → St → Hp → Prop
noncomputable def EP (X : Cx) (pins : List (Addr × Obj)) (σ : St) (Q : VK) (u : Value) (s' : Shared) : Prop := ∃ v H', Inv X pins σ H' s' ∧ RelV v u ∧ Q v H'
noncomputable def TP (X : Cx) (pins : List (Addr × Obj)) (σ : St) (Q : Bool → Hp → Prop) (b : Bool) (s' : Shared) : Prop := ∃ H', Inv X pins σ H' s' ∧ Q b H'
noncomputable def AP (X : Cx) (pins : List (Addr × Obj)) (σ : St) (Q : List V → Hp → Prop) (us : List Value) (s' : Shared) : Prop := ∃ vs H', Inv X pins σ H' s' ∧ Vals vs us ∧ Q vs H'
noncomputable def SP (X : Cx) (pins : List (Addr × Obj)) (D : Ends) (f : Flow) (s' : Shared) : Prop :=
  match f with
  | .next => ∃ σ' H', Inv X pins σ' H' s' ∧ D.nx σ' H'
  | .brk => ∃ σ' H', Inv X pins σ' H' s' ∧ D.bk σ' H'
  | .cont => ∃ σ' H', Inv X pins σ' H' s' ∧ D.ct σ' H'
  | .ret u => ∃ v σ' H', Inv X pins σ' H' s' ∧ RelV v u ∧ D.rt v H'
noncomputable def PE (X : Cx) (e : Expr) (t : TE) : Prop :=
  ∀ (pins : List (Addr × Obj)) (s : Shared) (σ : St) (H : Hp) (Q : VK), Inv X pins σ H s → t σ H Q → wpAny (model X.prog X.w) X.A (eval e X.env) (EP X pins σ Q) X.xe s
noncomputable def PT (X : Cx) (e : Expr) (t : TT) : Prop :=
  ∀ (pins : List (Addr × Obj)) (s : Shared) (σ : St) (H : Hp) (Q : Bool → Hp → Prop), Inv X pins σ H s → t σ H Q → wpAny (model X.prog X.w) X.A (isTrue e X.env (eval e X.env)) (TP X pins σ Q) X.xe s
noncomputable def PW (X : Cx) (e : Expr) (t : TT) : Prop :=
  ∀ (whole : Sem Value) (pins : List (Addr × Obj)) (s : Shared) (σ : St) (H : Hp) (Q : Bool → Hp → Prop), Inv X pins σ H s → t σ H Q → wpAny (model X.prog X.w) X.A (isTrue e X.env whole) (TP X pins σ Q) X.xe s
theorem PW.pt {X : Cx} {e : Expr} {t : TT} (h : PW X e t) : PT X e t := h _
noncomputable def PA (X : Cx) (es : List Expr) (t : TA) : Prop :=
  ∀ (pos : Pos) (pins : List (Addr × Obj)) (s : Shared) (σ : St) (H : Hp) (Q : List V → Hp → Prop), Inv X pins σ H s → t σ H Q → wpAny (model X.prog X.w) X.A (spliced (backTo pos (starEach es X.env))) (AP X pins σ Q) X.xe s
noncomputable def PS (X : Cx) (st : Stmt) (t : TS) : Prop :=
  ∀ (pins : List (Addr × Obj)) (s : Shared) (σ : St) (H : Hp) (D : Ends), Inv X pins σ H s → t D σ H → wpAny (model X.prog X.w) X.A (exec st X.env) (SP X pins D) X.xe s
noncomputable def PSs (X : Cx) (st : List Stmt) (t : TS) : Prop :=
  ∀ (pins : List (Addr × Obj)) (s : Shared) (σ : St) (H : Hp) (D : Ends), Inv X pins σ H s → t D σ H → wpAny (model X.prog X.w) X.A (execs st X.env) (SP X pins D) X.xe s
theorem thn {α : Type} {t : Sem α} {Q Q' : α → Shared → Prop} {M : Model} {A : Around} {E : Value → Shared → Prop} {s : Shared} (h : wpAny M A t Q E s) (hQ : ∀ a s, Q a s → Q' a s) : wpAny M A t Q' E s := wpAny_mono h hQ fun _ _ x => x
end L2
namespace L2
open PySem PySem.Spec PyProof.Rows
section
variable {X : Cx}
noncomputable def tVar (i : Nat) : TE := fun σ H Q => ∃ v, σ[i]? = some (some v) ∧ Q v H
noncomputable def tC (v : V) : TE := fun _ H Q => Q v H
theorem pe_var {i : Nat} {x : Str} {pos : Pos} (hN : X.N[i]? = some x) (hv : Vis X.env.scope x) (hd : (x == ("__debug__" : Str)) = false := by decide) (hcd : (x == ("__classdict__" : Str)) = false := by decide) : PE X (.Name x pos) (tVar i) := by
  intro pins s σ H Q I h
  obtain ⟨v, e, h⟩ := h
  obtain ⟨m, hn, hl⟩ := I.loc
  obtain ⟨u, r, l⟩ := hl i x v hN e hv
  have fin : EP X pins σ Q u s := ⟨v, H, I, r, h⟩
  rcases l with ⟨hk, hm⟩ | ⟨hk, c, hc, hcell⟩
  · exact wpAny_Name (wpAny_loadName_local I.ok.kind hk hn hm fin) hd
  · rcases hk with hk | hk
    · exact wpAny_Name (wpAny_loadName_cell I.ok.kind hk hc hcell fin) hd
    · exact wpAny_Name (wpAny_loadName_free I.ok.kind hk hc hcell fin hcd) hd
theorem pe_int {i j pos} : PE X (.Constant (.int i) j pos) (tC (.int i)) := fun _ _ _ H _ I h => wpAny_Constant_int ⟨.int i, H, I.tok _, ⟨_, rfl⟩, h⟩
theorem pe_bl {b j pos} : PE X (.Constant (.bool b) j pos) (tC (.bl b)) := fun _ _ _ H _ I h => Constant_bool ⟨.bl b, H, I, rfl, h⟩
theorem pe_str {x j pos} : PE X (.Constant (.str x) j pos) (tC (.str x)) := fun _ _ _ H _ I h => Calls.Constant_str ⟨.str x, H, I.tok _, ⟨_, rfl⟩, h⟩
noncomputable def Gl (X : Cx) (x : Str) : Prop := X.env.kindOf x = some .globalImplicit
theorem ld_glob {E : Value → Shared → Prop} {pins : List (Addr × Obj)} {s : Shared} {σ : St} {H : Hp} {x : Str} {u : Value} {pos : Pos} {Q : Value → Shared → Prop} (I : Inv X pins σ H s) (hg : Gl X x) (hm : X.mg x = some u) (h : Q u s)
    (hd : (x == ("__debug__" : Str)) = false := by decide) : wpAny (model X.prog X.w) X.A (eval (.Name x pos) X.env) Q E s :=
  Calls.Name_function_global I.ok.kind hg (Calls.loadGlobal_global (by rw [I.ok.glob]; exact I.mod.glob.keeps I.bk) hm h) hd
theorem ld_blt {E : Value → Shared → Prop} {pins : List (Addr × Obj)} {s : Shared} {σ : St} {H : Hp} {x : Str} {u : Value} {pos : Pos} {Q : Value → Shared → Prop} (I : Inv X pins σ H s) (hg : Gl X x) (hm : X.mg x = none) (hv : bootBuiltins x = some u) (h : Q u s)
    (hn : x ≠ "__name__" := by decide) (hd : (x == ("__debug__" : Str)) = false := by decide) : wpAny (model X.prog X.w) X.A (eval (.Name x pos) X.env) Q E s := by
  obtain ⟨mb, h1, h2⟩ := I.mod.blt
  exact Calls.Name_function_global I.ok.kind hg (Calls.loadGlobal_builtin (by rw [I.ok.glob]; exact I.mod.glob.keeps I.bk) hm (by rw [I.ok.blt]; exact h1.keeps I.bk) ((h2 x hn).trans hv) h) hd
theorem pe_glob {x : Str} {v : V} {u : Value} {pos : Pos} (hg : Gl X x) (hm : X.mg x = some u) (r : RelV v u) (hd : (x == ("__debug__" : Str)) = false := by decide) : PE X (.Name x pos) (tC v) :=
  fun _ _ _ H _ I h => ld_glob I hg hm ⟨v, H, I, r, h⟩ hd
theorem pe_bltn {x : Str} {v : V} {u : Value} {pos : Pos} (hg : Gl X x) (hm : X.mg x = none) (hv : bootBuiltins x = some u) (r : RelV v u) (hn : x ≠ "__name__" := by decide) (hd : (x == ("__debug__" : Str)) = false := by decide) : PE X (.Name x pos) (tC v) :=
  fun _ _ _ H _ I h => ld_blt I hg hm hv ⟨v, H, I, r, h⟩ hn hd
variable {a b : Expr} {ta tb : TE} {pos : Pos}
noncomputable def tB (t : TE) : TT := fun σ H Q => t σ H fun x H1 => ∃ c, x = .bl c ∧ Q c H1
theorem pt_val {e : Expr} {t : TE} (h : PE X e t) (he : ∀ whole, isTrue e X.env whole = (do let v ← whole; standAt e.pos; holding [v] (truthy v)) := by intro _; rfl) : PT X e (tB t) := by
  intro pins s σ H Q I hw
  refine isTrue_plain (thn (h pins s σ H _ I hw) fun v s1 ⟨x, H1, I1, r1, q1⟩ => ?_) (he _)
  obtain ⟨d, rfl, q⟩ := q1
  cases r1
  exact wpAny_truthy_bool ⟨H1, I1, q⟩
variable {tA tB' : TT} {rest : List Expr}
noncomputable def tAnd (t u : TT) : TT := fun σ H Q => t σ H fun c H1 => if c = true then u σ H1 Q else Q false H1
noncomputable def tOr (t u : TT) : TT := fun σ H Q => t σ H fun c H1 => if c = true then Q true H1 else u σ H1 Q
noncomputable def tNot (t : TT) : TT := fun σ H Q => t σ H fun c H1 => Q (!c) H1
theorem pw_and1 (ha : PT X a tA) : PW X (.BoolOp .And [a] pos) tA := by
  intro wh pins s σ H Q I h
  refine isTrue_and (thn (ha pins s σ H Q I h) fun c s1 e => ?_)
  cases c with
  | true => exact isTrue_and_nil e
  | false => exact e
theorem pw_or1 (ha : PT X a tA) : PW X (.BoolOp .Or [a] pos) tA := by
  intro wh pins s σ H Q I h
  refine isTrue_or (thn (ha pins s σ H Q I h) fun c s1 e => ?_)
  cases c with
  | false => exact isTrue_or_nil e
  | true => exact e
theorem pw_and (ha : PT X a tA) (hb : PW X (.BoolOp .And (b :: rest) pos) tB') : PW X (.BoolOp .And (a :: b :: rest) pos) (tAnd tA tB') := by
  intro wh pins s σ H Q I h
  refine isTrue_and (thn (ha pins s σ H _ I h) fun c s1 ⟨H1, I1, q1⟩ => ?_)
  cases c with
  | true => exact hb wh pins s1 σ H1 Q I1 q1
  | false => exact ⟨H1, I1, q1⟩
theorem pw_or (ha : PT X a tA) (hb : PW X (.BoolOp .Or (b :: rest) pos) tB') : PW X (.BoolOp .Or (a :: b :: rest) pos) (tOr tA tB') := by
  intro wh pins s σ H Q I h
  refine isTrue_or (thn (ha pins s σ H _ I h) fun c s1 ⟨H1, I1, q1⟩ => ?_)
  cases c with
  | true => exact ⟨H1, I1, q1⟩
  | false => exact hb wh pins s1 σ H1 Q I1 q1
theorem pt_not (ha : PT X a tA) : PT X (.UnaryOp .Not a pos) (tNot tA) := by
  intro pins s σ H Q I h
  exact isTrue_not (ha pins s σ H (fun c H1 => Q (!c) H1) I h)
noncomputable def tAndV (ta tb : TE) : TE := fun σ H Q => ta σ H fun x H1 => ∃ c, x = .bl c ∧ if c = true then tb σ H1 Q else Q (.bl false) H1
noncomputable def tNotV (ta : TE) : TE := fun σ H Q => ta σ H fun x H1 => ∃ c, x = .bl c ∧ Q (.bl (!c)) H1
theorem pe_one {op} {t : TE} (h : PE X a t) : PE X (.BoolOp op [a] pos) t := fun pins s σ H Q I hw => BoolOp_one (h pins s σ H Q I hw)
theorem pe_and (ha : PE X a ta) (hb : PE X (.BoolOp .And (b :: rest) pos) tb) : PE X (.BoolOp .And (a :: b :: rest) pos) (tAndV ta tb) := by
  intro pins s σ H Q I h
  refine BoolOp_and (thn (ha pins s σ H _ I h) fun v s1 ⟨x, H1, I1, r1, q1⟩ => ?_)
  obtain ⟨c, rfl, q1⟩ := q1
  cases r1
  refine wpAny_truthy_bool ?_
  cases c with
  | true => exact hb pins s1 σ H1 Q I1 q1
  | false => exact ⟨.bl false, H1, I1, rfl, q1⟩
theorem pe_not (ha : PE X a ta) : PE X (.UnaryOp .Not a pos) (tNotV ta) := by
  intro pins s σ H Q I h
  refine UnaryOp_ (thn (ha pins s σ H _ I h) fun v s1 ⟨x, H1, I1, r1, q1⟩ => ?_)
  obtain ⟨c, rfl, q1⟩ := q1
  cases r1
  exact not_of (wpAny_truthy_bool ⟨.bl (!c), H1, I1, rfl, q1⟩)
end
end L2
namespace L2
open PySem PySem.Spec PyProof.Rows
noncomputable def SqL (K : PySem.W.Frag) (H : Hp) (a : Addr) (xs : List V) : Prop :=
  Rd H a (.lst xs) ∨
    ∃ (o : Obj) (its : Array Value) (n : Nat), K.lookup a = some o ∧ o.cls = .type "list" ∧ o.dict = none ∧ o.data = .seq its n ∧ its.size ≤ sizeLine ∧ Vals xs its.toList
noncomputable def SqT (K : PySem.W.Frag) (H : Hp) (a : Addr) (xs : List V) : Prop :=
  Rd H a (.tup xs) ∨
    ∃ (o : Obj) (its : Array Value) (n : Nat), K.lookup a = some o ∧ o.cls = .type "tuple" ∧ o.data = .seq its n ∧ its.size ≤ sizeLine ∧ Vals xs its.toList
noncomputable def absV : Value → Option V
  | .none => some .non
  | .bool b => some (.bl b)
  | .int i _ => some (.int i)
  | .str x _ => some (.str x)
  | .bytes b _ => some (.byt b)
  | .float b _ => some (.flt b)
  | .ref a => some (.ref a)
  | .type n => some (.ty n)
  | _ => none
theorem RelV.abs {x : V} {u : Value} (r : RelV x u) : absV u = some x := by
  cases x with
  | non => cases r; rfl
  | bl _ => cases r; rfl
  | int _ => obtain ⟨t, rfl⟩ := r; rfl
  | str _ => obtain ⟨t, rfl⟩ := r; rfl
  | byt _ => obtain ⟨t, rfl⟩ := r; rfl
  | flt _ => obtain ⟨t, rfl⟩ := r; rfl
  | ref _ => cases r; rfl
  | ty _ => cases r; rfl
theorem RelV.inj {x y : V} {u : Value} (r : RelV x u) (q : RelV y u) : x = y := Option.some.inj (r.abs.symm.trans q.abs)
theorem Vals.inj : ∀ {xs ys : List V} {us : List Value}, Vals xs us → Vals ys us → xs = ys
  | _, _, _, .nil, .nil => rfl
  | _, _, _, .cons r t, .cons r' t' => by rw [r.inj r', Vals.inj t t']
section
variable {X : Cx} {pins : List (Addr × Obj)} {σ : St} {H : Hp} {s : Shared} {a : Addr} {xs ys : List V}
theorem SqL.of {K : PySem.W.Frag} (h : H a = some (.lst xs)) : SqL K H a xs := .inl (.inl h)
theorem SqT.of {K : PySem.W.Frag} (h : H a = some (.tup xs)) : SqT K H a xs := .inl (.inl h)
theorem Inv.list (I : Inv X pins σ H s) (h : SqL X.K H a xs) : ∃ its : List Value, Vals xs its ∧ PlainL s.heap a its.toArray ∧ xs.length ≤ sizeLine := by
  rcases h with h | ⟨o, its, n, hk, hc, hd, hs, hz, r⟩
  · obtain ⟨z, its, n, r, e⟩ := h.ok I.hok
    exact ⟨its, r, ⟨_, n, e, rfl, rfl, rfl⟩, z⟩
  · refine ⟨its.toList, r, ⟨o, n, I.kIn a o hk, hc, hd, by simpa using hs⟩, ?_⟩
    have e := r.length
    simp only [Array.length_toList] at e
    omega
theorem Inv.tuple (I : Inv X pins σ H s) (h : SqT X.K H a xs) : ∃ its : List Value, Vals xs its ∧ IsTup s.heap a its.toArray ∧ xs.length ≤ sizeLine := by
  rcases h with h | ⟨o, its, n, hk, hc, hs, hz, r⟩
  · obtain ⟨z, its, r, p⟩ := h.ok I.hok
    exact ⟨its, r, p, z⟩
  · refine ⟨its.toList, r, ⟨o, I.kIn a o hk, hc, n, by simpa using hs⟩, ?_⟩
    have e := r.length
    simp only [Array.length_toList] at e
    omega
theorem Inv.list_inj (I : Inv X pins σ H s) (h : SqL X.K H a xs) (h' : SqL X.K H a ys) : xs = ys := by
  obtain ⟨its, r, ⟨o, n, e, _, _, d⟩, _⟩ := I.list h
  obtain ⟨its', r', ⟨o', n', e', _, _, d'⟩, _⟩ := I.list h'
  rw [e] at e'; cases e'
  rw [d] at d'
  injection d' with d1 _
  have : its = its' := by simpa using congrArg Array.toList d1
  subst this
  exact r.inj r'
end
noncomputable abbrev Cx.wish (X : Cx) (E : Value → Shared → Prop) : Cx := { X with xe := E }
noncomputable abbrev Cx.nox (X : Cx) : Cx := X.wish fun _ _ => False
theorem Cx.Ok.wish {X : Cx} (ok : X.Ok) (E : Value → Shared → Prop) : (X.wish E).Ok :=
  ⟨ok.mod, ok.kind, ok.glob, ok.blt, ok.above, ok.inj, ok.has, ok.cab, ok.hd, ok.frames, ok.stk, ok.exf, ok.bs, ok.bsz, ok.noex, ok.exfs, ok.funs, ok.frf⟩
theorem Cx.Ok.unwish {X : Cx} {E : Value → Shared → Prop} (ok : (X.wish E).Ok) : X.Ok :=
  ⟨ok.mod, ok.kind, ok.glob, ok.blt, ok.above, ok.inj, ok.has, ok.cab, ok.hd, ok.frames, ok.stk, ok.exf, ok.bs, ok.bsz, ok.noex, ok.exfs, ok.funs, ok.frf⟩
section
variable {X : Cx} {pins : List (Addr × Obj)} {σ : St} {H : Hp} {s : Shared} {E : Value → Shared → Prop}
theorem Inv.wish (I : Inv X pins σ H s) (E : Value → Shared → Prop) : Inv (X.wish E) pins σ H s := ⟨I.ok.wish E, I.os, I.bare, I.base, I.loc, I.cell, I.free, I.freeC, I.pin, I.hok, I.len⟩
theorem Inv.unwish (I : Inv (X.wish E) pins σ H s) : Inv X pins σ H s := ⟨I.ok.unwish, I.os, I.bare, I.base, I.loc, I.cell, I.free, I.freeC, I.pin, I.hok, I.len⟩
theorem SP.unwish {D : Ends} {f : Flow} {s' : Shared} (h : SP (X.wish E) pins D f s') : SP X pins D f s' := by
  cases f with
  | next => obtain ⟨σ', H', I, q⟩ := h; exact ⟨σ', H', I.unwish, q⟩
  | brk => obtain ⟨σ', H', I, q⟩ := h; exact ⟨σ', H', I.unwish, q⟩
  | cont => obtain ⟨σ', H', I, q⟩ := h; exact ⟨σ', H', I.unwish, q⟩
  | ret u => obtain ⟨v, σ', H', I, r, q⟩ := h; exact ⟨v, σ', H', I.unwish, r, q⟩
theorem PE.nox {e : Expr} {t : TE} (h : PE X.nox e t) : PE X e t := fun pins s σ H Q I hw =>
  wpAny_mono (h pins s σ H Q (I.wish _) hw) (fun _ _ ⟨v, H', I', r, q⟩ => ⟨v, H', I'.unwish, r, q⟩) fun _ _ z => False.elim z
theorem PT.nox {e : Expr} {t : TT} (h : PT X.nox e t) : PT X e t := fun pins s σ H Q I hw =>
  wpAny_mono (h pins s σ H Q (I.wish _) hw) (fun _ _ ⟨H', I', q⟩ => ⟨H', I'.unwish, q⟩) fun _ _ z => False.elim z
theorem PSs.nox {st : List Stmt} {t : TS} (h : PSs X.nox st t) : PSs X st t := fun pins s σ H D I hw =>
  wpAny_mono (h pins s σ H D (I.wish _) hw) (fun _ _ q => q.unwish) fun _ _ z => False.elim z
end
section
variable {X : Cx} {st : Stmt} {rest : List Stmt} {t u : TS} {e : Expr} {te : TE} {pos : Pos}
noncomputable def tNext : TS := fun D σ H => D.nx σ H
noncomputable def tSeq (t u : TS) : TS := fun D σ H => t { D with nx := u D } σ H
theorem pss_nil : PSs X [] tNext := fun _ _ σ H _ I h => wpAny_execs_nil ⟨σ, H, I, h⟩
theorem pss_cons (h1 : PS X st t) (h2 : PSs X rest u) : PSs X (st :: rest) (tSeq t u) := by
  intro pins s σ H D I h
  refine wpAny_execs_cons (thn (h1 pins s σ H { D with nx := u D } I h) fun f s1 q => ?_)
  cases f with
  | next =>
    obtain ⟨σ', H', I', q⟩ := q
    exact h2 pins s1 σ' H' D I' q
  | ret v => exact q
  | brk => exact q
  | cont => exact q
theorem pss_one (h1 : PS X st t) : PSs X [st] t := by
  intro pins s σ H D I h
  refine wpAny_execs_cons (thn (h1 pins s σ H D I h) fun f s1 q => ?_)
  cases f with
  | next => exact wpAny_execs_nil q
  | ret v => exact q
  | brk => exact q
  | cont => exact q
theorem Inv.quiet {pins : List (Addr × Obj)} {σ : St} {H : Hp} {s : Shared} (I : Inv X pins σ H s) : interactive X.env = false := by simp [interactive, I.ok.kind]
noncomputable def tDrop (te : TE) : TS := fun D σ H => te σ H fun _ H1 => D.nx σ H1
theorem ps_expr (he : PE X e te) (hs : swapsWith e none pos.line X.env = pure false := by rfl) : PS X (.Expr e pos) (tDrop te) := by
  intro pins s σ H D I h
  exact wpAny_Expr_any (thn (he pins s σ H _ I h) fun v s1 ⟨x, H1, I1, r1, q1⟩ => ⟨σ, H1, I1, q1⟩) I.quiet hs
noncomputable def tRet (te : TE) : TS := fun D σ H => te σ H D.rt
theorem ps_ret (he : PE X e te) : PS X (.Return (some e) pos) (tRet te) := by
  intro pins s σ H D I h
  exact wpAny_Return_some (thn (he pins s σ H _ I h) fun v s1 ⟨x, H1, I1, r1, q1⟩ => ⟨x, σ, H1, I1, r1, q1⟩)
noncomputable def tIfS (c : TT) (t u : TS) : TS := fun D σ H => c σ H fun b H1 => if b = true then t D σ H1 else u D σ H1
theorem ps_if {c : Expr} {a b : List Stmt} {tc : TT} (hc : PT X c tc) (ha : PSs X a t) (hb : PSs X b u) : PS X (.If c a b pos) (tIfS tc t u) := by
  intro pins s σ H D I h
  refine wpAny_If (thn (hc pins s σ H _ I h) fun d s1 ⟨H1, I1, q1⟩ => ?_)
  cases d with
  | true => exact ha pins s1 σ H1 D I1 q1
  | false => exact hb pins s1 σ H1 D I1 q1
end
noncomputable abbrev TG := V → St → Hp → (St → Hp → Prop) → Prop
noncomputable abbrev TGs := List V → St → Hp → (St → Hp → Prop) → Prop
noncomputable def PG (X : Cx) (target : Expr) (t : TG) : Prop :=
  ∀ (pins : List (Addr × Obj)) (s : Shared) (σ : St) (H : Hp) (v : V) (u : Value) (Q : St → Hp → Prop), Inv X pins σ H s → RelV v u → t v σ H Q →
    wpAny (model X.prog X.w) X.A (assign target X.env u) (fun _ s' => ∃ σ' H', Inv X pins σ' H' s' ∧ Q σ' H') X.xe s
noncomputable def PGs (X : Cx) (ts : List Expr) (t : TGs) : Prop :=
  ∀ (pins : List (Addr × Obj)) (s : Shared) (σ : St) (H : Hp) (vs : List V) (us : List Value) (Q : St → Hp → Prop), Inv X pins σ H s → Vals vs us → t vs σ H Q →
    wpAny (model X.prog X.w) X.A (assignInOrder ((assignEach ts X.env).map (·.2)) us) (fun _ s' => ∃ σ' H', Inv X pins σ' H' s' ∧ Q σ' H') X.xe s
section
variable {X : Cx} {pos : Pos}
noncomputable def gName (i : Nat) : TG := fun v σ H Q => Q (σ.set i (some v)) H
theorem pg_name {i : Nat} {x : Str} (hN : X.N.Nodup) (hi : X.N[i]? = some x) (hx : Loc X.env.scope x) (hf : X.fn x = true ∨ X.env.scope.names.lookup x = some .local := by first | exact .inl rfl | exact .inr rfl | assumption) : PG X (.Name x pos) (gName i) := by
  intro pins s σ H v u Q I r h
  exact wpAny_assign_Name (store_ok I hN hi hx r (fun s' I' => ⟨_, H, I', h⟩) hf)
noncomputable def gNil : TGs := fun vs σ H Q => vs = [] ∧ Q σ H
noncomputable def gCons (t : TG) (u : TGs) : TGs := fun vs σ H Q => ∃ v r, vs = v :: r ∧ t v σ H fun σ' H' => u r σ' H' Q
theorem pgs_nil : PGs X [] gNil := by
  intro pins s σ H vs us Q I r h
  obtain ⟨e, h⟩ := h
  subst e
  cases r
  exact assignInOrder_nil ⟨σ, H, I, h⟩
theorem pgs_cons {e : Expr} {es : List Expr} {t : TG} {u : TGs} (h1 : PG X e t) (h2 : PGs X es u)
    (hs : (assignEach (e :: es) X.env).map (·.2) = assign e X.env :: (assignEach es X.env).map (·.2) := by rfl) : PGs X (e :: es) (gCons t u) := by
  intro pins s σ H vs us Q I r h
  obtain ⟨v, vr, e1, h⟩ := h
  subst e1
  cases r with
  | cons r rr =>
    rw [hs]
    refine assignInOrder_cons (thn (h1 pins s σ H _ _ _ I r h) fun _ s1 ⟨σ1, H1, I1, q1⟩ => ?_)
    exact h2 pins s1 σ1 H1 _ _ Q I1 rr q1
noncomputable def gTup (K : PySem.W.Frag) (n : Nat) (t : TGs) : TG := fun v σ H Q => ∃ a xs, v = .ref a ∧ SqT K H a xs ∧ xs.length = n ∧ t xs σ H Q
theorem pg_tup {es : List Expr} {k : Nat} {t : TGs} {n : Nat} (hc : X.calm = true) (h : PGs X es t)
    (hn : (assignEach es X.env).length = n := by rfl) (hst : (assignEach es X.env).findIdx? (·.1) = none := by rfl) : PG X (.Tuple es k pos) (gTup X.K n t) := by
  intro pins s σ H v u Q I r hw
  obtain ⟨a, xs, e1, hq, hl, hw⟩ := hw
  subst e1
  cases r
  obtain ⟨its, rv, ht, hz⟩ := I.tuple hq
  refine assign_Tuple_tuple (I.ok.hd hc) ht (by simp [hn, ← hl, rv.length]) hst fun h' hx => ?_
  have I1 : Inv X pins σ H { s with heap := h' } := I.kept (t' := s.toks) fun b o e => hx b o (Nat.ne_of_lt (Heap.lt_size e)) e
  exact h pins _ σ H xs _ Q I1 (by simpa using rv) hw
noncomputable def tAsg (te : TE) (g : TG) : TS := fun D σ H => te σ H fun x H1 => g x σ H1 D.nx
theorem ps_asg {tg e : Expr} {te : TE} {g : TG} (he : PE X e te) (hg : PG X tg g) (hs : swapsWithSole [tg] e pos.line X.env = pure false := by rfl) (hw : swappedStores [tg] e X.env = pure none := by rfl)
    (h1 : (assignEach [tg] X.env).map (·.2) = [assign tg X.env] := by rfl) : PS X (.Assign [tg] e pos) (tAsg te g) := by
  intro pins s σ H D I h
  refine wpAny_Assign_stores (thn (he pins s σ H _ I h) fun v s1 ⟨x, H1, I1, r1, q1⟩ => ?_) hs hw
  rw [h1]
  exact thn (hg pins s1 σ H1 x v _ I1 r1 q1) fun _ s2 q => q
theorem ps_set {i : Nat} {x : Str} {e : Expr} {te : TE} {pos' : Pos} (hN : X.N.Nodup) (hi : X.N[i]? = some x) (hx : Loc X.env.scope x) (he : PE X e te) (hs : swapsWith e (some (.Name x pos')) pos.line X.env = pure false := by rfl) (hf : X.fn x = true ∨ X.env.scope.names.lookup x = some .local := by first | exact .inl rfl | exact .inr rfl | assumption) :
    PS X (.Assign [.Name x pos'] e pos) (tAsg te (gName i)) := by
  intro pins s σ H D I h
  refine wpAny_Assign_Name (thn (he pins s σ H _ I h) fun v s1 ⟨y, H1, I1, r1, q1⟩ => ?_) hs
  exact store_ok I1 hN hi hx r1 (fun s2 I2 => ⟨_, H1, I2, q1⟩) hf
noncomputable def tPar (i j : Nat) (ta : TA) : TS := fun D σ H => ta σ H fun vs H1 => ∃ v w, vs = [v, w] ∧ D.nx ((σ.set i (some v)).set j (some w)) H1
theorem ps_par {i j : Nat} {x y : Str} {a b : Expr} {ta : TA} {px py pt : Pos} {kt k2 pt2} (hc : X.calm = true) (hN : X.N.Nodup) (hi : X.N[i]? = some x) (hj : X.N[j]? = some y) (hij : i ≠ j)
    (hx : X.env.scope.names.lookup x = some .local) (hy : X.env.scope.names.lookup y = some .local) (ha : PA X [a, b] ta)
    (hw : swappedStores [.Tuple [.Name x px, .Name y py] kt pt] (.Tuple [a, b] k2 pt2) X.env = pure (some [x, y]))
    (hs : swapsWithSole [.Tuple [.Name x px, .Name y py] kt pt] (.Tuple [a, b] k2 pt2) pos.line X.env = pure false := by rfl) :
    PS X (.Assign [.Tuple [.Name x px, .Name y py] kt pt] (.Tuple [a, b] k2 pt2) pos) (tPar i j ta) := by
  intro pins s σ H D I h
  rw [exec_Assign_arm]
  refine wpAny_bind (wpAny_standAt ?_)
  rw [hs]
  refine wpAny_bind (wpAny_pure ?_)
  rw [if_neg (by decide)]
  refine wpAny_bind (Tuple_ (thn (ha _ pins s σ H _ I h) fun us s1 ⟨vs, H1, I1, r1, q1⟩ => ?_))
  obtain ⟨v, w, e1, q1⟩ := q1
  subst e1
  obtain ⟨u1, u2, rfl, rv, rw'⟩ : ∃ u1 u2, us = [u1, u2] ∧ RelV v u1 ∧ RelV w u2 := by
    cases r1 with
    | cons p q =>
      cases q with
      | cons p' q' =>
        cases q'
        exact ⟨_, _, rfl, p, p'⟩
  refine wpAny_newObj_type ?_ (by show 2 ≤ sizeLine; decide)
  have I2 : Inv X pins σ H1 { s1 with heap := s1.heap.push { cls := .type "tuple", data := .seq [u1, u2].toArray } } := I1.kept (t' := s1.toks) fun b o e => Heap.get?_push_of_some _ e
  rw [hw]
  refine wpAny_bind (wpAny_pure ?_)
  show wpAny (model X.prog X.w) X.A (do rule "assign.swapped-stores"; let items ← unpackItems (.ref s1.heap.objs.size) 2 none; assignInOrder [fun v => bindName X.env y v, fun v => bindName X.env x v] items.reverse; pure Flow.next) _ _ _
  refine wpAny_bind (wpAny_rule (wpAny_bind (unpackItems_tuple (items := #[u1, u2]) (I.ok.hd hc) (IsTup.new s1.heap _) fun h' hx' => ?_)))
  have I3 := I2.kept (h' := h') (t' := s1.toks) fun b o e => hx' b o (Nat.ne_of_lt (Heap.lt_size e)) e
  show wpAny _ _ (assignInOrder [fun v => bindName X.env y v, fun v => bindName X.env x v] [u2, u1] >>= fun _ => pure Flow.next) _ _ _
  refine wpAny_bind (assignInOrder_cons (wpAny_bindName (store_ok I3 hN hj (.inl hy) rw' (fun s2 I4 => ?_) (.inr hy))))
  refine assignInOrder_cons (wpAny_bindName (store_ok I4 hN hi (.inl hx) rv (fun s3 I5 => assignInOrder_nil (wpAny_pure ?_)) (.inr hx)))
  rw [List.set_comm _ _ (Ne.symm hij)] at I5
  exact ⟨_, H1, I5, q1⟩
end
section
variable {X : Cx} {pos : Pos}
noncomputable def tWhile (c : TT) (tb : TS) : TS := fun D σ H => ∃ W : Nat → St → Hp → Prop, (∃ m, W m σ H) ∧ ∀ m σ H, W m σ H →
  c σ H fun b H1 => if b = true then ∃ N : St → Hp → Prop, (∀ σ' H', N σ' H' → ∃ m', m' < m ∧ W m' σ' H') ∧ tb { D with nx := N, ct := N, bk := D.nx } σ H1 else D.nx σ H1
theorem ps_while {c : Expr} {body : List Stmt} {tc : TT} {tb : TS} (hp : PassesOwn (model X.prog X.w) X.A X.env X.xe) (hc : PT X c tc) (hb : PSs X body tb) : PS X (.While c body [] pos) (tWhile tc tb) := by
  intro pins s σ H D I h
  obtain ⟨W, ⟨m0, w0⟩, turn⟩ := h
  refine wpAny_While (codeAny_whileLoop (fun n s' => ∃ σ' H', Inv X pins σ' H' s' ∧ W n σ' H') ?_ m0 ⟨σ, H, I, w0⟩)
  rintro n s1 ⟨σ1, H1, I1, w1⟩
  refine wpAny_passesOwn hp (thn (hc pins s1 σ1 H1 _ I1 (turn n σ1 H1 w1)) fun b s2 ⟨H2, I2, q2⟩ => ?_)
  cases b with
  | true =>
    obtain ⟨N, hN, q2⟩ := q2
    rw [if_pos rfl]
    refine wpAny_passesOwn hp (thn (hb pins s2 σ1 H2 _ I2 q2) fun f s3 q3 => ?_)
    cases f with
    | next =>
      obtain ⟨σ3, H3, I3, n3⟩ := q3
      obtain ⟨m', hm, w3⟩ := hN σ3 H3 n3
      exact ⟨m', hm, σ3, H3, I3, w3⟩
    | cont =>
      obtain ⟨σ3, H3, I3, n3⟩ := q3
      obtain ⟨m', hm, w3⟩ := hN σ3 H3 n3
      exact ⟨m', hm, σ3, H3, I3, w3⟩
    | brk => exact q3
    | ret v => exact q3
  | false =>
    rw [if_neg Bool.false_ne_true]
    exact wpAny_execs_nil ⟨σ1, H2, I2, q2⟩
end
structure It where
  go : Nat → Hp → Prop
  yld : Nat → Hp → V → Hp → Prop
  stop : Nat → Hp → Prop
noncomputable def FpOk (X : Cx) (pins : List (Addr × Obj)) (H : Hp) (b : Addr) : Prop :=
  H b = none ∧ b ≠ X.env.locals ∧ b ∉ X.fs ∧ (b ∈ X.ex ∨ X.s₀.heap.objs.size ≤ b) ∧ (∀ x c, X.env.cells.lookup x = some c → c ≠ b) ∧ ∀ p ∈ X.pn ++ pins, p.1 ≠ b
theorem Inv.fpOk {X : Cx} {pins : List (Addr × Obj)} {σ : St} {H H' : Hp} {s : Shared} {b : Addr} (I : Inv X pins σ H s) (hb : s.heap.objs.size ≤ b) (hn : H' b = none) : FpOk X pins H' b := by
  refine ⟨hn, Nat.ne_of_gt (Nat.lt_of_lt_of_le I.lt hb), I.nofs hb, .inr (Nat.le_trans I.sz hb), fun x c e z => ?_, fun p hp z => ?_⟩
  · obtain ⟨v, q⟩ := I.cell x c e
    exact absurd (Nat.lt_of_lt_of_le q.lt (by rw [z]; exact hb)) (Nat.lt_irrefl _)
  · exact absurd (Nat.lt_of_lt_of_le (Heap.lt_size (I.pin p hp).1) (by rw [z]; exact hb)) (Nat.lt_irrefl _)
structure Turn (P : Program) (w : World) (K : PySem.W.Frag) (tg : Expr) (J : It) (fp : List Addr) (it : Addr) (tn : Nat → Heap → Prop) : Prop where
  mem : it ∈ fp
  obj : ∀ i h, tn i h → ∀ b ∈ fp, ∃ o, h.get? b = some o ∧ ∀ v, o.data ≠ .cell v
  keep : ∀ i h h', tn i h → (∀ b ∈ fp, ∀ o, h.get? b = some o → h'.get? b = some o) → tn i h'
  item : ∀ (X : Cx), X.prog = P → X.w = w → X.K = K → X.calm = true → ∀ (i : Nat) (pins : List (Addr × Obj)) (s : Shared) (σ : St) (H : Hp) (E : Value → Shared → Prop), Inv X pins σ H s → (∀ b ∈ fp, FpOk X pins H b) → tn i s.heap → J.go i H →
    wpAny (model P w) X.A (pyNext (.ref it)) (fun r s1 => ∃ u, r = some u ∧
      wpAny (model P w) X.A (letOwnedTupleGo tg (.ref it) u) (fun _ s2 => ∃ x H', Inv X pins σ H' s2 ∧ RelV x u ∧ J.yld i H x H' ∧ tn (i + 1) s2.heap ∧ ∀ b ∈ fp, H' b = none) E s1) E s
  done : ∀ (X : Cx), X.prog = P → X.w = w → X.K = K → X.calm = true → ∀ (i : Nat) (pins : List (Addr × Obj)) (s : Shared) (σ : St) (H : Hp) (E : Value → Shared → Prop), Inv X pins σ H s → (∀ b ∈ fp, FpOk X pins H b) → tn i s.heap → J.stop i H →
    wpAny (model P w) X.A (pyNext (.ref it)) (fun r s1 => r = none ∧ Inv X pins σ H s1) E s
  self : ∀ (A : Around) (i : Nat) (s : Shared) (Q : Value → Shared → Prop) (E : Value → Shared → Prop), tn i s.heap → Q (.ref it) s → wpAny (model P w) A (pyIter (.ref it)) Q E s
noncomputable abbrev TI := St → Hp → (It → Hp → Prop) → Prop
noncomputable def PIE (X : Cx) (pins : List (Addr × Obj)) (σ : St) (tg : Expr) (R : It → Hp → Prop) (itv : Value) (s2 : Shared) : Prop :=
  ∃ (it : Addr) (fp : List Addr) (tn : Nat → Heap → Prop) (J : It) (H' : Hp), itv = .ref it ∧ Inv X pins σ H' s2 ∧ Turn X.prog X.w X.K tg J fp it tn ∧ tn 0 s2.heap ∧ (∀ b ∈ fp, FpOk X pins H' b) ∧ R J H'
noncomputable def PI (X : Cx) (tg iter : Expr) (wi : TI) : Prop :=
  ∀ (pins : List (Addr × Obj)) (s : Shared) (σ : St) (H : Hp) (R : It → Hp → Prop), Inv X pins σ H s → wi σ H R →
    wpAny (model X.prog X.w) X.A (eval iter X.env) (fun v s1 => wpAny (model X.prog X.w) X.A (pyIter v) (PIE X pins σ tg R) X.xe s1) X.xe s
theorem go_of {M : Model} {A : Around} {E : Value → Shared → Prop} {s : Shared} {tg : Expr} {it : Addr} {u : Value} {o : Obj} {n : String} {vs : Array Value} {Q : Unit → Shared → Prop} (ho : s.heap.get? it = some o) (hc : o.cls = .type n) (hd : o.data = .fields vs)
    (hn : ["enumerate", "zip", "dict_itemiterator", "dict_reverseitemiterator", "odict_iterator", "itertools.zip_longest", "itertools.pairwise"].contains n = false) (hQ : Q () s) : wpAny M A (letOwnedTupleGo tg (.ref it) u) Q E s := by
  unfold letOwnedTupleGo
  cases tg <;> first
    | exact wpAny_pure hQ
    | (cases u <;> first
        | exact wpAny_pure hQ
        | (refine wpAny_bind (wpAny_load ho ?_)
           rw [hc, hd]
           show wpAny M A (if (["enumerate", "zip", "dict_itemiterator", "dict_reverseitemiterator", "odict_iterator", "itertools.zip_longest", "itertools.pairwise"].contains n && vs[0]? == some (rawInt _)) = true then _ else _) Q E s
           rw [if_neg (by intro h; rw [hn, Bool.false_and] at h; cases h)]
           exact wpAny_pure hQ))
noncomputable def Itl (K : PySem.W.Frag) (a : Addr) : It :=
  ⟨fun i H => ∃ xs x, SqL K H a xs ∧ xs[i]? = some x, fun i H x H' => H' = H ∧ ∀ xs, SqL K H a xs → xs[i]? = some x, fun i H => ∃ xs, SqL K H a xs ∧ xs.length ≤ i⟩
noncomputable def Itr (lo : Int) (n : Nat) : It := ⟨fun i _ => i < n, fun i H x H' => H' = H ∧ x = .int (lo + i), fun i _ => n ≤ i⟩
theorem turn_list {P : Program} {w : World} {K : PySem.W.Frag} {tg : Expr} (a it : Addr) : Turn P w K tg (Itl K a) [it] it (fun i h => h.IsListIter it a i) where
  mem := by simp
  obj := fun i h st b hb => by
    have e : b = it := by simpa using hb
    subst e
    obtain ⟨o, e, c, d⟩ := st
    exact ⟨o, e, fun v z => by rw [d] at z; cases z⟩
  keep := fun i h h' st k => st.at fun o e => k it (by simp) o e
  item := by
    intro X hP hw hK hc i pins s σ H E I hf st hg
    subst hP hw hK
    obtain ⟨xs, x, hq, hx⟩ := hg
    obtain ⟨its, rv, p, hz⟩ := I.list hq
    obtain ⟨u, hu, ru⟩ := rv.get hx
    obtain ⟨f0, f1, f2, f3, f4, f5⟩ := hf it (by simp)
    refine wpAny_pyNext_list_item st p.isList (x := u) (by simpa using hu) fun h' st' sb => ?_
    have I1 : Inv X pins σ H { s with heap := h' } := I.turned (t' := s.toks) (fun b o hb e => (sb.2 b hb).trans e) f0 f1 f3 f4 f5
    obtain ⟨o, e, c, d⟩ := id st'
    exact ⟨u, rfl, go_of (s := { s with heap := h' }) e c d (by decide) ⟨x, H, I1, ru, ⟨rfl, fun ys hy => by rw [I.list_inj hy hq]; exact hx⟩, st', fun b hb => (hf b hb).1⟩⟩
  done := by
    intro X hP hw hK hc i pins s σ H E I hf st hg
    subst hP hw hK
    obtain ⟨xs, hq, hx⟩ := hg
    obtain ⟨its, rv, p, hz⟩ := I.list hq
    obtain ⟨f0, f1, f2, f3, f4, f5⟩ := hf it (by simp)
    have hl := rv.length
    exact wpAny_pyNext_list_end (I.ok.hd hc) st p.isList (by simp; omega) fun h' eb => ⟨rfl, I.turned (t' := s.toks) (fun b o hb e => eb b o hb e) f0 f1 f3 f4 f5⟩
  self := fun _ _ _ _ _ st h => wpAny_pyIter_listiter st h
theorem turn_range {P : Program} {w : World} {K : PySem.W.Frag} {tg : Expr} (it : Addr) (lo : Int) (n : Nat) : Turn P w K tg (Itr lo n) [it] it (fun i h => IsRangeIter h it (lo + (i : Nat) * 1) ((n : Int) - (i : Nat)) 1) where
  mem := by simp
  obj := fun i h st b hb => by
    have e : b = it := by simpa using hb
    subst e
    exact ⟨_, st, fun v z => by
      have z' : Data.fields _ = Data.cell v := z
      cases z'⟩
  keep := fun i h h' st k => k it (by simp) _ st
  item := by
    intro X hP hw hK hc i pins s σ H E I hf st hg
    subst hP hw hK
    obtain ⟨f0, f1, f2, f3, f4, f5⟩ := hf it (by simp)
    have W := Walks.range (prog := X.prog) (w := X.w) (I.ok.hd hc) it lo 1 n
    refine W.item i s _ _ hg st fun v h' tk hv st' kk => ?_
    obtain ⟨t, rfl⟩ := hv
    have I1 : Inv X pins σ H { s with heap := h', toks := tk } := I.turned (fun b o hb e => kk b o (by simpa using hb) e) f0 f1 f3 f4 f5
    refine ⟨_, rfl, go_of (s := { s with heap := h', toks := tk }) (n := "range_iterator") st' rfl rfl (by decide) ⟨.int (lo + i), H, I1, ⟨t, ?_⟩, ⟨rfl, rfl⟩, st', fun b hb => (hf b hb).1⟩⟩
    rw [Int.mul_one]
  done := by
    intro X hP hw hK hc i pins s σ H E I hf st hg
    subst hP hw hK
    obtain ⟨f0, f1, f2, f3, f4, f5⟩ := hf it (by simp)
    exact wpAny_pyNext_range_end (I.ok.hd hc) st (by have : n ≤ i := hg; omega) fun h' eb => ⟨rfl, I.turned (t' := s.toks) (fun b o hb e => eb b o hb e) f0 f1 f3 f4 f5⟩
  self := fun _ _ _ _ _ st h => wpAny_pyIter_rangeiter st h
end L2
namespace L2
open PySem PySem.Spec PyProof.Rows
section
variable {X : Cx} {tg : Expr}
noncomputable def iList (K : PySem.W.Frag) (tl : TE) : TI := fun σ H R => tl σ H fun x H1 => ∃ a, x = .ref a ∧ (∃ xs, SqL K H1 a xs) ∧ R (Itl K a) H1
theorem pi_list {l : Expr} {tl : TE} (hl : PE X l tl) : PI X tg l (iList X.K tl) := by
  intro pins s σ H R I h
  refine thn (hl pins s σ H _ I h) fun v s1 ⟨x, H1, I1, r1, q1⟩ => ?_
  obtain ⟨a, e, ⟨xs, hq⟩, q⟩ := q1
  subst e
  cases r1
  obtain ⟨its, rv, p, hz⟩ := I1.list hq
  refine wpAny_pyIter_list p.isList ?_
  refine ⟨s1.heap.objs.size, [s1.heap.objs.size], _, _, H1, rfl, I1.kept (t' := s1.toks) fun b o e => Heap.get?_push_of_some _ e, turn_list a _, ⟨_, Heap.get?_push_size _ rfl, rfl, rfl⟩, fun b hb => ?_, q⟩
  have e : b = s1.heap.objs.size := by simpa using hb
  subst e
  exact I1.fpOk (Nat.le_refl _) (I1.hok.fresh (Nat.le_refl _))
theorem range_it {pins : List (Addr × Obj)} {σ : St} {H : Hp} {s : Shared} {R : It → Hp → Prop} {E : Value → Shared → Prop} {lo hi : Int} {t u v : Tok} {tk : Nat} (I : Inv X pins σ H s) (h1 : -(2 ^ 62) ≤ lo) (h2 : lo < 2 ^ 62) (h3 : -(2 ^ 62) ≤ hi) (h4 : hi < 2 ^ 62)
    (q : R (Itr lo (hi - lo).toNat) H) : wpAny (model X.prog X.w) X.A (pyIter (.ref s.heap.objs.size)) (PIE X pins σ tg R) E { s with heap := s.heap.push { cls := .type "range", data := .fields #[.int lo t, .int hi u, .int 1 v] }, toks := tk } := by
  refine wpAny_pyIter_range (IsRange.new ..) (small_one h1 h2 h3 h4) ?_
  have I1 : Inv X pins σ H { s with heap := s.heap.push { cls := .type "range", data := .fields #[.int lo t, .int hi u, .int 1 v] }, toks := tk } := I.kept fun b o e => Heap.get?_push_of_some _ e
  refine ⟨(s.heap.push { cls := .type "range", data := .fields #[.int lo t, .int hi u, .int 1 v] }).objs.size, [(s.heap.push { cls := .type "range", data := .fields #[.int lo t, .int hi u, .int 1 v] }).objs.size], _, _, H, rfl,
    I1.kept (t' := tk) fun b o e => Heap.get?_push_of_some _ e, turn_range _ lo (hi - lo).toNat, ?_, fun b hb => ?_, q⟩
  · have e1 : lo + ((0 : Nat) : Int) * 1 = lo := by simp
    have e2 : (((hi - lo).toNat : Nat) : Int) - ((0 : Nat) : Int) = Builtin.Range.rangeSize lo hi 1 := by rw [rangeSize_one]; split <;> omega
    show IsRangeIter _ _ (lo + ((0 : Nat) : Int) * 1) ((((hi - lo).toNat : Nat) : Int) - ((0 : Nat) : Int)) 1
    rw [e1, e2]
    exact Heap.get?_push_size _ rfl
  · have e : b = (s.heap.push { cls := .type "range", data := .fields #[.int lo t, .int hi u, .int 1 v] }).objs.size := by simpa using hb
    subst e
    exact I1.fpOk (Nat.le_refl _) (I1.hok.fresh (Nat.le_refl _))
noncomputable def iRng1 (ta : TA) : TI := fun σ H R => ta σ H fun vs H1 => ∃ j : Int, vs = [.int j] ∧ -(2 ^ 62) ≤ j ∧ j < 2 ^ 62 ∧ R (Itr 0 j.toNat) H1
noncomputable def iRng2 (ta : TA) : TI := fun σ H R => ta σ H fun vs H1 => ∃ i j : Int, vs = [.int i, .int j] ∧ (-(2 ^ 62) ≤ i ∧ i < 2 ^ 62 ∧ -(2 ^ 62) ≤ j ∧ j < 2 ^ 62) ∧ R (Itr i (j - i).toNat) H1
theorem pi_range1 {a : Expr} {ta : TA} {p pos : Pos} (hg : Gl X "range") (hm : X.mg "range" = none) (ha : PA X [a] ta) (hs : starEach [a] X.env = [(false, eval a X.env)] := by rfl) : PI X tg (.Call (.Name "range" p) [a] [] pos) (iRng1 ta) := by
  intro pins s σ H R I h
  refine Call_ (ld_blt I hg hm boot_range (PyProof.Rows.callWith_type1 (thn (ha pos pins s σ H _ I h) fun us s1 ⟨vs, H1, I1, r1, q1⟩ => ?_) hs rfl))
  obtain ⟨j, e, q1, q2, q⟩ := q1
  subst e
  cases r1 with
  | cons r rr =>
    cases rr
    obtain ⟨t, rfl⟩ := r
    exact call_range_1 (range_it I1 (by omega) (by omega) q1 q2 (by simpa using q))
theorem pi_range2 {a b : Expr} {ta : TA} {p pos : Pos} (hg : Gl X "range") (hm : X.mg "range" = none) (ha : PA X [a, b] ta) (hs : starEach [a, b] X.env = [(false, eval a X.env), (false, eval b X.env)] := by rfl) (hs2 : starEach [b] X.env = [(false, eval b X.env)] := by rfl) :
    PI X tg (.Call (.Name "range" p) [a, b] [] pos) (iRng2 ta) := by
  intro pins s σ H R I h
  refine Call_ (ld_blt I hg hm boot_range (PyProof.Rows.callWith_type1 (thn (ha pos pins s σ H _ I h) fun us s1 ⟨vs, H1, I1, r1, q1⟩ => ?_) (by rw [hs, hs2]) (by rw [hs2]; rfl)))
  obtain ⟨i, j, e, ⟨q1, q2, q3, q4⟩, q⟩ := q1
  subst e
  cases r1 with
  | cons r rr =>
    cases rr with
    | cons r' rr =>
      cases rr
      obtain ⟨t, rfl⟩ := r
      obtain ⟨t', rfl⟩ := r'
      exact call_range_2 (range_it I1 q1 q2 q3 q4 q)
noncomputable def tFor (wi : TI) (g : TG) (tb : TS) : TS := fun D σ H => wi σ H fun J H1 => ∃ W : Nat → Nat → St → Hp → Prop, (∃ m, W 0 m σ H1) ∧ ∀ i m σ H, W i m σ H →
  (J.stop i H ∧ D.nx σ H) ∨ (J.go i H ∧ ∃ N : St → Hp → Prop, (∀ σ' H', N σ' H' → ∃ m', m' < m ∧ W (i + 1) m' σ' H') ∧ ∀ x H', J.yld i H x H' → g x σ H' fun σ2 H2 => tb { D with nx := N, ct := N, bk := D.nx } σ2 H2)
noncomputable def pinsAt (fp : List Addr) (h : Heap) : List (Addr × Obj) := fp.filterMap fun b => (h.get? b).map fun o => (b, o)
theorem mem_pinsAt {fp : List Addr} {h : Heap} {b : Addr} {o : Obj} (hb : b ∈ fp) (e : h.get? b = some o) : (b, o) ∈ pinsAt fp h := List.mem_filterMap.mpr ⟨b, hb, by rw [e]; rfl⟩
theorem of_pinsAt {fp : List Addr} {h : Heap} {p : Addr × Obj} (hp : p ∈ pinsAt fp h) : p.1 ∈ fp ∧ h.get? p.1 = some p.2 := by
  obtain ⟨b, hb, e⟩ := List.mem_filterMap.mp hp
  cases q : h.get? b with
  | none => rw [q] at e; cases e
  | some o =>
    rw [q] at e
    have e' : (b, o) = p := Option.some.inj e
    subst e'
    exact ⟨hb, q⟩
theorem Inv.pinned {pins : List (Addr × Obj)} {σ : St} {H : Hp} {s : Shared} {fp : List Addr} (I : Inv X pins σ H s) (hf : ∀ b ∈ fp, FpOk X pins H b) (ho : ∀ b ∈ fp, ∃ o, s.heap.get? b = some o ∧ ∀ v, o.data ≠ .cell v) : Inv X (pins ++ pinsAt fp s.heap) σ H s :=
  I.pins_of fun p hp => (List.mem_append.mp hp).elim (fun z => I.pin p (List.mem_append_right _ z)) fun z => by
    obtain ⟨hb, e⟩ := of_pinsAt z
    obtain ⟨f0, f1, f2, _⟩ := hf p.1 hb
    obtain ⟨o, e', d⟩ := ho p.1 hb
    rw [e] at e'; cases e'
    exact ⟨e, f0, f1, f2, d⟩
theorem Inv.unpinned {pins pl : List (Addr × Obj)} {σ : St} {H : Hp} {s : Shared} (I : Inv X (pins ++ pl) σ H s) : Inv X pins σ H s := I.pins_of fun p hp => I.pin p (List.mem_append_right _ (List.mem_append_left _ hp))
theorem ps_for {iter : Expr} {body : List Stmt} {wi : TI} {g : TG} {tb : TS} {pos : Pos} (hp : PassesOwn (model X.prog X.w) X.A X.env X.xe) (hc : X.calm = true) (hi : PI X tg iter wi) (hg : PG X tg g) (hb : PSs X body tb)
    (hs : ∀ x, foldedSetIterable iter X.env x = pure x := by intro _; rfl) : PS X (.For tg iter body [] pos) (tFor wi g tb) := by
  intro pins s σ H D I h
  refine wpAny_For (thn (hi pins s σ H _ I h) fun v s1 h1 => thn h1 fun itv s2 h2 => ?_) hs
  obtain ⟨it, fp, tn, J, H2, e, I2, T, st2, f2, W, ⟨m0, w0⟩, turn⟩ := h2
  subst e
  have stat : ∀ {H' : Hp}, (∀ b ∈ fp, H' b = none) → ∀ b ∈ fp, FpOk X pins H' b := fun hn b hb => ⟨hn b hb, (f2 b hb).2⟩
  refine codeAny_forLoop_any (fun n s' => ∃ i σ' H', Inv X pins σ' H' s' ∧ tn i s'.heap ∧ (∀ b ∈ fp, H' b = none) ∧ W i n σ' H') ?_ m0 ⟨0, σ, H2, I2, st2, fun b hb => (f2 b hb).1, w0⟩
  rintro n s3 ⟨i, σ3, H3, I3, st3, fr3, w3⟩
  rcases turn i n σ3 H3 w3 with ⟨stop, qn⟩ | ⟨go, N, hN, step⟩
  · refine wpAny_passesOwn hp (thn (T.done X rfl rfl rfl hc i pins s3 σ3 H3 X.xe I3 (stat fr3) st3 stop) fun r s4 ⟨hr, I4⟩ => ?_)
    subst hr
    exact wpAny_execs_nil ⟨σ3, H3, I4, qn⟩
  · refine wpAny_passesOwn hp (thn (T.item X rfl rfl rfl hc i pins s3 σ3 H3 X.xe I3 (stat fr3) st3 go) fun r s4 ⟨u, hr, h4⟩ => ?_)
    subst hr
    refine wpAny_passesOwn hp (thn h4 fun _ s5 ⟨x, H5, I5, r5, y5, st5, fr5⟩ => ?_)
    have I5' := I5.pinned (stat fr5) (T.obj _ _ st5)
    refine wpAny_passesOwn hp (thn (hg _ s5 σ3 H5 x u _ I5' r5 (step x H5 y5)) fun _ s6 ⟨σ6, H6, I6, q6⟩ => ?_)
    refine wpAny_passesOwn hp (thn (hb _ s6 σ6 H6 _ I6 q6) fun f s7 q7 => ?_)
    have again : ∀ {σ7 : St} {H7 : Hp}, Inv X (pins ++ pinsAt fp s5.heap) σ7 H7 s7 → N σ7 H7 → ∃ m, m < n ∧ ∃ i σ' H', Inv X pins σ' H' s7 ∧ tn i s7.heap ∧ (∀ b ∈ fp, H' b = none) ∧ W i m σ' H' := fun {σ7 H7} I7 n7 => by
      obtain ⟨m', hm, w7⟩ := hN σ7 H7 n7
      refine ⟨m', hm, i + 1, σ7, H7, I7.unpinned, T.keep _ _ _ st5 fun b hb o e => (I7.pin (b, o) (List.mem_append_right _ (List.mem_append_right _ (mem_pinsAt hb e)))).1, fun b hb => ?_, w7⟩
      obtain ⟨o, e, d⟩ := T.obj _ _ st5 b hb
      exact (I7.pin (b, o) (List.mem_append_right _ (List.mem_append_right _ (mem_pinsAt hb e)))).2.1
    cases f with
    | next => obtain ⟨σ7, H7, I7, n7⟩ := q7; exact again I7 n7
    | cont => obtain ⟨σ7, H7, I7, n7⟩ := q7; exact again I7 n7
    | brk => obtain ⟨σ7, H7, I7, q7⟩ := q7; exact ⟨σ7, H7, I7.unpinned, q7⟩
    | ret v => obtain ⟨x7, σ7, H7, I7, r7, q7⟩ := q7; exact ⟨x7, σ7, H7, I7.unpinned, r7, q7⟩
end
end L2
namespace L2
open PySem PySem.Spec PyProof.Rows
noncomputable abbrev R2 := V → V → Hp → VK → Prop
noncomputable def OpR (X : Cx) (f : Value → Value → Sem Value) (r : R2) : Prop :=
  ∀ (pins : List (Addr × Obj)) (s : Shared) (σ : St) (H : Hp) (x y : V) (v u : Value) (Q : VK), Inv X pins σ H s → RelV x v → RelV y u → r x y H Q →
    wpAny (model X.prog X.w) X.A (f v u) (EP X pins σ Q) X.xe s
noncomputable def UnR (X : Cx) (f : Value → Sem Value) (r : V → Hp → VK → Prop) : Prop :=
  ∀ (pins : List (Addr × Obj)) (s : Shared) (σ : St) (H : Hp) (x : V) (v : Value) (Q : VK), Inv X pins σ H s → RelV x v → r x H Q →
    wpAny (model X.prog X.w) X.A (f v) (EP X pins σ Q) X.xe s
noncomputable def CallR (X : Cx) (f : Value) (r : List V → Hp → VK → Prop) : Prop :=
  ∀ (pins : List (Addr × Obj)) (s : Shared) (σ : St) (H : Hp) (xs : List V) (us : List Value) (Q : VK), Inv X pins σ H s → Vals xs us → r xs H Q →
    wpAny (model X.prog X.w) X.A (call f us) (EP X pins σ Q) X.xe s
noncomputable def tOp (r : R2) (ta tb : TE) : TE := fun σ H Q => ta σ H fun x H1 => tb σ H1 fun y H2 => r x y H2 Q
noncomputable def tUn (r : V → Hp → VK → Prop) (ta : TE) : TE := fun σ H Q => ta σ H fun x H1 => r x H1 Q
noncomputable def rI (C : Int → Int → Prop) (g : Int → Int → V) : R2 := fun x y H Q => ∃ i j, x = .int i ∧ y = .int j ∧ C i j ∧ Q (g i j) H
noncomputable def rI0 (g : Int → Int → V) : R2 := fun x y H Q => ∃ i j, x = .int i ∧ y = .int j ∧ Q (g i j) H
noncomputable def rU (g : Int → V) : V → Hp → VK → Prop := fun x H Q => ∃ i, x = .int i ∧ Q (g i) H
section
variable {X : Cx} {a b c : Expr} {ta tb tc : TE} {pos : Pos}
theorem binT (ha : PE X a ta) (hb : PE X b tb) {pins : List (Addr × Obj)} {s : Shared} {σ : St} {H : Hp} {R : V → V → Hp → Prop} (I : Inv X pins σ H s)
    (h : ta σ H fun x H1 => tb σ H1 fun y H2 => R x y H2) {Q : Value → Shared → Prop} {f : Value → Value → Sem Value}
    (hf : ∀ v u s2 x y H2, Inv X pins σ H2 s2 → RelV x v → RelV y u → R x y H2 → wpAny (model X.prog X.w) X.A (f v u) Q X.xe s2) :
    wpAny (model X.prog X.w) X.A (eval a X.env) (fun v s₁ => wpAny (model X.prog X.w) X.A (eval b X.env) (fun u s₂ => wpAny (model X.prog X.w) X.A (f v u) Q X.xe s₂) X.xe s₁) X.xe s := by
  refine thn (ha pins s σ H _ I h) fun v s1 ⟨x, H1, I1, r1, q1⟩ => ?_
  refine thn (hb pins s1 σ H1 _ I1 q1) fun u s2 ⟨y, H2, I2, r2, q2⟩ => ?_
  exact hf v u s2 x y H2 I2 r1 r2 q2
theorem pe_op {op : Operator} {r : R2} (ho : OpR X (binaryOp op) r) (ha : PE X a ta) (hb : PE X b tb) : PE X (.BinOp a op b pos) (tOp r ta tb) := by
  intro pins s σ H Q I h
  exact wpAny_BinOp (binT ha hb I h fun v u s2 x y H2 I2 rx ry q => ho pins s2 σ H2 x y v u Q I2 rx ry q)
theorem pe_un {op : UnaryOp} {r : V → Hp → VK → Prop} (ho : UnR X (unaryOp op) r) (ha : PE X a ta) : PE X (.UnaryOp op a pos) (tUn r ta) := by
  intro pins s σ H Q I h
  exact UnaryOp_ (thn (ha pins s σ H _ I h) fun v s1 ⟨x, H1, I1, r1, q1⟩ => ho pins s1 σ H1 x v Q I1 r1 q1)
theorem augR {op : Operator} {r : R2} (ho : OpR X (inplaceOp op) r) {pins : List (Addr × Obj)} {s : Shared} {σ : St} {H : Hp} {x y : V} {v u : Value} {Q : VK} (I : Inv X pins σ H s)
    (rx : RelV x v) (ry : RelV y u) (q : r x y H Q) : wpAny (model X.prog X.w) X.A (inplaceOp op v u) (EP X pins σ Q) X.xe s := ho pins s σ H x y v u Q I rx ry q
theorem opI {f : Value → Value → Sem Value} {C : Int → Int → Prop} {g : Int → Int → Int}
    (rule : ∀ (i j : Int) (t u : Tok) (s : Shared) (Q : Value → Shared → Prop) (E : Value → Shared → Prop), C i j → Q (.int (g i j) s.toks) { s with toks := s.toks + 1 } → wpAny (model X.prog X.w) X.A (f (.int i t) (.int j u)) Q E s) :
    OpR X f (rI C fun i j => .int (g i j)) := by
  intro pins s σ H x y v u Q I rx ry h
  obtain ⟨i, j, rfl, rfl, hc, q⟩ := h
  obtain ⟨t, rfl⟩ := rx
  obtain ⟨t', rfl⟩ := ry
  exact rule i j t t' s _ _ hc ⟨.int (g i j), H, I.tok _, ⟨_, rfl⟩, q⟩
theorem opI0 {f : Value → Value → Sem Value} {g : Int → Int → Int}
    (rule : ∀ (i j : Int) (t u : Tok) (s : Shared) (Q : Value → Shared → Prop) (E : Value → Shared → Prop), Q (.int (g i j) s.toks) { s with toks := s.toks + 1 } → wpAny (model X.prog X.w) X.A (f (.int i t) (.int j u)) Q E s) :
    OpR X f (rI0 fun i j => .int (g i j)) := by
  intro pins s σ H x y v u Q I rx ry h
  obtain ⟨i, j, rfl, rfl, q⟩ := h
  obtain ⟨t, rfl⟩ := rx
  obtain ⟨t', rfl⟩ := ry
  exact rule i j t t' s _ _ ⟨.int (g i j), H, I.tok _, ⟨_, rfl⟩, q⟩
theorem opB0 {f : Value → Value → Sem Value} {g : Int → Int → Bool}
    (rule : ∀ (i j : Int) (t u : Tok) (s : Shared) (Q : Value → Shared → Prop) (E : Value → Shared → Prop), Q (.bool (g i j)) s → wpAny (model X.prog X.w) X.A (f (.int i t) (.int j u)) Q E s) :
    OpR X f (rI0 fun i j => .bl (g i j)) := by
  intro pins s σ H x y v u Q I rx ry h
  obtain ⟨i, j, rfl, rfl, q⟩ := h
  obtain ⟨t, rfl⟩ := rx
  obtain ⟨t', rfl⟩ := ry
  exact rule i j t t' s _ _ ⟨.bl (g i j), H, I, rfl, q⟩
noncomputable def CPow (i j : Int) : Prop := 0 ≤ j ∧ j ≤ 1000000 ∧ i.natAbs < 2 ^ 64
noncomputable def CMul (i j : Int) : Prop := (-(2 ^ 64) < i ∧ i < 2 ^ 64) ∨ (-(2 ^ 64) < j ∧ j < 2 ^ 64)
theorem CMul.ok {i j : Int} (h : CMul i j) : IntMulOk i j := by
  rcases h with ⟨h1, h2⟩ | ⟨h1, h2⟩
  · exact .of_left (intBits_le_64 h1 h2)
  · exact .of_right (intBits_le_64 h1 h2)
theorem op_add : OpR X (binaryOp .Add) (rI0 fun i j => .int (i + j)) := opI0 fun _ _ _ _ _ _ _ q => add_int q
theorem op_sub : OpR X (binaryOp .Sub) (rI0 fun i j => .int (i - j)) := opI0 fun _ _ _ _ _ _ _ q => sub_int q
theorem op_mod : OpR X (binaryOp .Mod) (rI (fun _ j => 0 < j) fun i j => .int (i % j)) := opI fun i j _ _ _ _ _ hc q => by
  have h1 : (0 : Int) < j := hc
  exact mod_int' (by omega) (by rw [Int.fmod_eq_emod_of_nonneg i (by omega)]; exact q)
theorem op_pow : OpR X (binaryOp .Pow) (rI CPow fun i j => .int (i ^ j.toNat)) := opI fun _ _ _ _ _ _ _ hc q => pow_int_small hc.1 hc.2.1 hc.2.2 q
theorem unI {f : Value → Sem Value} {g : Int → Int}
    (rule : ∀ (i : Int) (t : Tok) (s : Shared) (Q : Value → Shared → Prop) (E : Value → Shared → Prop), Q (.int (g i) s.toks) { s with toks := s.toks + 1 } → wpAny (model X.prog X.w) X.A (f (.int i t)) Q E s) :
    UnR X f (rU fun i => .int (g i)) := by
  intro pins s σ H x v Q I rx h
  obtain ⟨i, rfl, q⟩ := h
  obtain ⟨t, rfl⟩ := rx
  exact rule i t s _ _ ⟨.int (g i), H, I.tok _, ⟨_, rfl⟩, q⟩
theorem un_neg : UnR X (unaryOp .USub) (rU fun i => .int (-i)) := unI fun _ _ _ _ _ q => neg_int q
end
noncomputable def scal : V → V → Bool
  | .non, .non => true | .non, .int _ => true | .int _, .non => true | .non, .bl _ => true | .bl _, .non => true | .non, .str _ => true | .str _, .non => true
  | .int _, .int _ => true | .bl _, .bl _ => true | .str _, .str _ => true | .byt _, .byt _ => true
  | .int _, .str _ => true | .str _, .int _ => true | .bl _, .str _ => true | .str _, .bl _ => true
  | _, _ => false
noncomputable def rEq : R2 := fun x y H Q => scal x y = true ∧ Q (.bl (decide (x = y))) H
noncomputable def rNe : R2 := fun x y H Q => scal x y = true ∧ Q (.bl (!decide (x = y))) H
theorem dec_int {i j : Int} : decide (V.int i = V.int j) = (i == j) := by
  rw [Bool.eq_iff_iff]
  simp
theorem dec_bl {i j : Bool} : decide (V.bl i = V.bl j) = (i == j) := by
  rw [Bool.eq_iff_iff]
  simp
theorem dec_str {i j : Str} : decide (V.str i = V.str j) = (i == j) := by
  rw [Bool.eq_iff_iff]
  simp
theorem dec_byt {i j : Array UInt8} : decide (V.byt i = V.byt j) = (i.toList == j.toList) := by
  rw [Bool.eq_iff_iff]
  cases i
  cases j
  simp
section
variable {X : Cx} {a b c : Expr} {ta tb tc : TE} {pos : Pos}
theorem fin_bl {pins : List (Addr × Obj)} {σ : St} {H : Hp} {s : Shared} {Q : VK} {k k' : Bool} (I : Inv X pins σ H s) (q : Q (.bl k) H) (e : k = k') : EP X pins σ Q (.bool k') s := by
  subst e
  exact ⟨.bl k, H, I, rfl, q⟩
theorem op_eq : OpR X (compareOp .Eq) rEq := by
  intro pins s σ H x y v u Q I rx ry h
  obtain ⟨hs, q⟩ := h
  cases x with
  | non =>
    cases rx
    cases y with
    | non => cases ry; exact PySem.EqNone.eq_none_none (fin_bl I q (by simp))
    | bl j => cases ry; exact PySem.EqNone.eq_none_bool (fin_bl I q (by simp))
    | int j => obtain ⟨t', rfl⟩ := ry; exact PySem.EqNone.eq_none_int (fin_bl I q (by simp))
    | str j => obtain ⟨t', rfl⟩ := ry; exact PySem.EqNone.eq_none_str (fin_bl I q (by simp))
    | _ => exact absurd (show false = true from hs) Bool.false_ne_true
  | bl i =>
    cases rx
    cases y with
    | non => cases ry; exact PySem.EqNone.eq_bool_none (fin_bl I q (by simp))
    | bl j => cases ry; exact eq_bool (fin_bl I q dec_bl)
    | str j => obtain ⟨t', rfl⟩ := ry; exact PySem.EqMixed.eq_bool_str (fin_bl I q (by simp))
    | _ => exact absurd (show false = true from hs) Bool.false_ne_true
  | int i =>
    obtain ⟨t, rfl⟩ := rx
    cases y with
    | non => cases ry; exact PySem.EqNone.eq_int_none (fin_bl I q (by simp))
    | int j => obtain ⟨t', rfl⟩ := ry; exact eq_int (fin_bl I q dec_int)
    | str j => obtain ⟨t', rfl⟩ := ry; exact PySem.EqMixed.eq_int_str (fin_bl I q (by simp))
    | _ => exact absurd (show false = true from hs) Bool.false_ne_true
  | str i =>
    obtain ⟨t, rfl⟩ := rx
    cases y with
    | non => cases ry; exact PySem.EqNone.eq_str_none (fin_bl I q (by simp))
    | bl j => cases ry; exact PySem.EqMixed.eq_str_bool (fin_bl I q (by simp))
    | int j => obtain ⟨t', rfl⟩ := ry; exact PySem.EqMixed.eq_str_int (fin_bl I q (by simp))
    | str j => obtain ⟨t', rfl⟩ := ry; exact eq_str (fin_bl I q dec_str)
    | _ => exact absurd (show false = true from hs) Bool.false_ne_true
  | byt i =>
    obtain ⟨t, rfl⟩ := rx
    cases y with
    | byt j => obtain ⟨t', rfl⟩ := ry; exact PySem.W.eq_bytes (fin_bl I q dec_byt)
    | _ => exact absurd (show false = true from hs) Bool.false_ne_true
  | _ => cases y <;> exact absurd (show false = true from hs) Bool.false_ne_true
theorem op_ne : OpR X (compareOp .NotEq) rNe := by
  intro pins s σ H x y v u Q I rx ry h
  obtain ⟨hs, q⟩ := h
  cases x with
  | non =>
    cases rx
    cases y with
    | non => cases ry; exact PySem.EqNone.ne_none_none (fin_bl I q (by simp))
    | bl j => cases ry; exact PySem.EqNone.ne_none_bool (fin_bl I q (by simp))
    | int j => obtain ⟨t', rfl⟩ := ry; exact PySem.EqNone.ne_none_int (fin_bl I q (by simp))
    | str j => obtain ⟨t', rfl⟩ := ry; exact PySem.EqNone.ne_none_str (fin_bl I q (by simp))
    | _ => exact absurd (show false = true from hs) Bool.false_ne_true
  | bl i =>
    cases rx
    cases y with
    | non => cases ry; exact PySem.EqNone.ne_bool_none (fin_bl I q (by simp))
    | bl j => cases ry; exact ne_bool (fin_bl I q (congrArg not dec_bl))
    | str j => obtain ⟨t', rfl⟩ := ry; exact PySem.EqMixed.ne_bool_str (fin_bl I q (by simp))
    | _ => exact absurd (show false = true from hs) Bool.false_ne_true
  | int i =>
    obtain ⟨t, rfl⟩ := rx
    cases y with
    | non => cases ry; exact PySem.EqNone.ne_int_none (fin_bl I q (by simp))
    | int j => obtain ⟨t', rfl⟩ := ry; exact ne_int (fin_bl I q (congrArg not dec_int))
    | str j => obtain ⟨t', rfl⟩ := ry; exact PySem.EqMixed.ne_int_str (fin_bl I q (by simp))
    | _ => exact absurd (show false = true from hs) Bool.false_ne_true
  | str i =>
    obtain ⟨t, rfl⟩ := rx
    cases y with
    | non => cases ry; exact PySem.EqNone.ne_str_none (fin_bl I q (by simp))
    | bl j => cases ry; exact PySem.EqMixed.ne_str_bool (fin_bl I q (by simp))
    | int j => obtain ⟨t', rfl⟩ := ry; exact PySem.EqMixed.ne_str_int (fin_bl I q (by simp))
    | str j => obtain ⟨t', rfl⟩ := ry; exact ne_str (fin_bl I q (congrArg not dec_str))
    | _ => exact absurd (show false = true from hs) Bool.false_ne_true
  | byt i =>
    obtain ⟨t, rfl⟩ := rx
    cases y with
    | byt j => obtain ⟨t', rfl⟩ := ry; exact PySem.W.ne_bytes (fin_bl I q (congrArg not dec_byt))
    | _ => exact absurd (show false = true from hs) Bool.false_ne_true
  | _ => cases y <;> exact absurd (show false = true from hs) Bool.false_ne_true
theorem op_lt : OpR X (compareOp .Lt) (rI0 fun i j => .bl (decide (i < j))) := opB0 fun _ _ _ _ _ _ _ q => lt_int q
theorem op_le : OpR X (compareOp .LtE) (rI0 fun i j => .bl (decide (i ≤ j))) := opB0 fun _ _ _ _ _ _ _ q => le_int q
theorem op_gt : OpR X (compareOp .Gt) (rI0 fun i j => .bl (decide (j < i))) := opB0 fun _ _ _ _ _ _ _ q => gt_int q
theorem OpR.or {f : Value → Value → Sem Value} {r r' : R2} (h : OpR X f r) (h' : OpR X f r') : OpR X f (fun x y H Q => r x y H Q ∨ r' x y H Q) := by
  intro pins s σ H x y v u Q I rx ry q
  rcases q with q | q
  · exact h pins s σ H x y v u Q I rx ry q
  · exact h' pins s σ H x y v u Q I rx ry q
theorem nomark (b : Expr) {op : CmpOp} (h : op ≠ .In := by decide) (h2 : op ≠ .NotIn := by decide) : behindInMarks op b = false := by
  have e1 : (op == CmpOp.In) = false := by cases op <;> first | rfl | exact absurd rfl h
  have e2 : (op == CmpOp.NotIn) = false := by cases op <;> first | rfl | exact absurd rfl h2
  cases b <;> simp [behindInMarks, e1, e2]
theorem pe_cmpR {op : CmpOp} {r : R2} (ho : OpR X (compareOp op) r) (ha : PE X a ta) (hb : PE X b tb) (hm : behindInMarks op b = false) : PE X (.Compare a [op] [b] pos) (tOp r ta tb) := by
  intro pins s σ H Q I h
  exact wpAny_Compare1 (binT ha hb I h fun v u s2 x y H2 I2 rx ry q => ho pins s2 σ H2 x y v u Q I2 rx ry q) hm
noncomputable def tTest (t : TE) : TT := fun σ H Q => t σ H fun x H' => ∃ k, x = .bl k ∧ Q k H'
theorem pt_cmpR {op : CmpOp} {r : R2} (ho : OpR X (compareOp op) r) (ha : PE X a ta) (hb : PE X b tb) (hm : behindInMarks op b = false) : PT X (.Compare a [op] [b] pos) (tTest (tOp r ta tb)) := by
  intro pins s σ H Q I h
  refine wpAny_isTrue_Compare1 (thn (ha pins s σ H _ I h) fun v s1 ⟨x, H1, I1, r1, q1⟩ => thn (hb pins s1 σ H1 _ I1 q1) fun u s2 ⟨y, H2, I2, r2, q2⟩ =>
    thn (ho pins s2 σ H2 x y v u _ I2 r1 r2 q2) fun c s3 ⟨z, H3, I3, r3, k, e, q3⟩ => ?_) hm
  subst e
  cases r3
  exact wpAny_truthy_bool ⟨H3, I3, q3⟩
noncomputable def tChain (r r' : R2) (ta tb tc : TE) : TE := fun σ H Q => ta σ H fun x H1 => tb σ H1 fun y H2 => r x y H2 fun z H3 => ∃ k, z = .bl k ∧
  (if k = true then tc σ H3 fun w' H4 => r' y w' H4 Q else Q (.bl false) H3)
theorem pe_chain {op op' : CmpOp} {r r' : R2} (ho : OpR X (compareOp op) r) (ho' : OpR X (compareOp op') r') (ha : PE X a ta) (hb : PE X b tb) (hc : PE X c tc)
    (hm : lastMarks [op, op'] [b, c] = false := by with_unfolding_all rfl) : PE X (.Compare a [op, op'] [b, c] pos) (tChain r r' ta tb tc) := by
  intro pins s σ H Q I h
  refine Compare_chain (thn (ha pins s σ H _ I h) fun v s1 ⟨x, H1, I1, r1, q1⟩ => chain_link (thn (hb pins s1 σ H1 _ I1 q1) fun u s2 ⟨y, H2, I2, r2, q2⟩ =>
    thn (ho pins s2 σ H2 x y v u _ I2 r1 r2 q2) fun d s3 ⟨z, H3, I3, r3, k, e, q3⟩ => ?_)) hm
  subst e
  cases r3
  refine wpAny_truthy_bool ?_
  cases k with
  | false => exact ite_ff ⟨.bl false, H3, I3, rfl, q3⟩
  | true => exact ite_tt (chain_last (thn (hc pins s3 σ H3 _ I3 q3) fun w' s4 ⟨z', H4, I4, r4, q4⟩ => ho' pins s4 σ H4 y z' u w' Q I4 r2 r4 q4))
theorem line63 : (sizeLine : Nat) < 2 ^ 63 := by rw [sizeLine_eq]; decide
theorem vals1 {x : V} {us : List Value} (r : Vals [x] us) : ∃ u, us = [u] ∧ RelV x u := by
  cases r with
  | cons r1 r2 => cases r2; exact ⟨_, rfl, r1⟩
theorem vals2 {x y : V} {us : List Value} (r : Vals [x, y] us) : ∃ u w', us = [u, w'] ∧ RelV x u ∧ RelV y w' := by
  cases r with
  | cons r1 r2 =>
    cases r2 with
    | cons r3 r4 => cases r4; exact ⟨_, _, rfl, r1, r3⟩
theorem call_abs : CallR X (.builtin "abs") (fun xs H Q => ∃ i, xs = [.int i] ∧ Q (.int (if i < 0 then -i else i)) H) := by
  intro pins s σ H xs us Q I r h
  obtain ⟨i, rfl, q⟩ := h
  obtain ⟨u, rfl, t, rfl⟩ := vals1 r
  exact call_abs_int fun u tk => ⟨.int (if i < 0 then -i else i), H, I.tok _, ⟨_, rfl⟩, q⟩
theorem call_max2 (hc : X.calm = true) : CallR X (.builtin "max") (fun xs H Q => ∃ i j, xs = [.int i, .int j] ∧ Q (.int (if j > i then j else i)) H) := by
  intro pins s σ H xs us Q I r h
  obtain ⟨i, j, rfl, q⟩ := h
  obtain ⟨u, w', rfl, ⟨t, rfl⟩, ⟨t', rfl⟩⟩ := vals2 r
  refine max_two_ints (I.ok.hd hc) fun h' tk k => ⟨_, H, I.kept k, ?_, q⟩
  by_cases hj : j > i
  · rw [if_pos hj, if_pos hj]; exact ⟨_, rfl⟩
  · rw [if_neg hj, if_neg hj]; exact ⟨_, rfl⟩
theorem call_min2 (hc : X.calm = true) : CallR X (.builtin "min") (fun xs H Q => ∃ i j, xs = [.int i, .int j] ∧ Q (.int (if j < i then j else i)) H) := by
  intro pins s σ H xs us Q I r h
  obtain ⟨i, j, rfl, q⟩ := h
  obtain ⟨u, w', rfl, ⟨t, rfl⟩, ⟨t', rfl⟩⟩ := vals2 r
  refine min_two_ints (I.ok.hd hc) fun h' tk k => ⟨_, H, I.kept k, ?_, q⟩
  by_cases hj : j < i
  · rw [if_pos hj, if_pos hj]; exact ⟨_, rfl⟩
  · rw [if_neg hj, if_neg hj]; exact ⟨_, rfl⟩
theorem call_int1 : CallR X (.type "int") (fun xs H Q => (∃ i, xs = [.int i] ∧ Q (.int i) H) ∨ ∃ k, xs = [.bl k] ∧ Q (.int (if k then 1 else 0)) H) := by
  intro pins s σ H xs us Q I r h
  rcases h with ⟨i, rfl, q⟩ | ⟨k, rfl, q⟩
  · obtain ⟨u, rfl, t, rfl⟩ := vals1 r
    exact call_int_int ⟨.int i, H, I, ⟨_, rfl⟩, q⟩
  · obtain ⟨u, rfl, r1⟩ := vals1 r
    cases r1
    exact call_int_bool ⟨.int (if k then 1 else 0), H, I.tok _, ⟨_, rfl⟩, q⟩
end
end L2
namespace L2
open PySem PySem.Spec PyProof.Rows
structure ObjM (h : Heap) (x dx C : Addr) (mA : Str → Option Value) : Prop where
  obj : h.get? x = some (PySem.W.instObj C dx)
  ns : h.Ns1 dx mA
  ne : dx ≠ x
theorem lookIn_ns {h : Heap} {dx : Addr} {mA : Str → Option Value} (n : h.Ns1 dx mA) : ∃ od, h.get? dx = some od ∧ ∀ name, PySem.W.lookIn name od = some (mA name) := by
  obtain ⟨o, es, ep, ho, hd, hk, _, hm⟩ := n
  refine ⟨o, ho, fun name => ?_⟩
  have e := hm name
  unfold nsFind findBy at e
  rw [← Array.find?_toList] at e
  unfold PySem.W.lookIn
  rw [hd]
  dsimp only
  split
  · rename_i y q
    rw [q] at e
    exact congrArg some e
  · rename_i q
    rw [q] at e
    have a : es.toList.any (·.refKey) = false := by
      rw [List.any_eq_false]
      intro y hy
      obtain ⟨z, t, hkey⟩ := hk y (Array.mem_toList_iff.mp hy)
      simp [DictEntry.refKey, hkey]
    have a' : ¬ es.toList.any (·.refKey) = true := by rw [a]; exact Bool.false_ne_true
    rw [if_neg a']
    exact congrArg some e
theorem ObjM.look {h : Heap} {x dx C : Addr} {mA : Str → Option Value} (I : ObjM h x dx C mA) : ∃ od, PySem.W.InstAt h x (PySem.W.instObj C dx) C (some od) ∧ ∀ name, PySem.W.lookIn name od = some (mA name) :=
  let ⟨od, ho, hl⟩ := lookIn_ns I.ns
  ⟨od, ⟨I.obj, rfl, rfl, ho⟩, hl⟩
section
variable {prog : Program} {w : World} {A : Around} {E : Value → Shared → Prop} {s : Shared} {K : PySem.W.Frag} {x dx C f : Addr} {mA : Str → Option Value} {name : Str} {v : Value}
end
section
variable {P : Program} {w : World} {H H' : Hp} {h h' : Heap} {a C dx : Addr} {fs fs' : List (Str × V)}
theorem ins_get (hok : HOk P w H h) (e : H a = some (.ins C dx fs)) : ∃ mA, ObjM h a dx C mA ∧ (∀ f, RelO (fs.lookup f) (mA f)) ∧ PySem.Within mA (fs.map (·.1)) ∧ fs.length ≤ 1000 ∧ H dx = some (.own a) := by
  obtain ⟨d, z, ne, ob, mA, n, r, q⟩ := (show ObjOk P w H h a (.ins C dx fs) from hok a _ e)
  exact ⟨mA, ⟨ob, n, ne⟩, r, q, z, d⟩
end
structure Cls (K : PySem.W.Frag) (C : Addr) : Prop where
  pg : PySem.W.plainGet K C Str.empty = true
  hd : PySem.W.hasDictIn K C = true
  po : PySem.W.plainOver K C = true
  sa : PySem.W.findIn K (.ref C) "__setattr__" = some (some (.builtin "object.__setattr__"))
theorem Cls.get {K : PySem.W.Frag} {C : Addr} (c : Cls K C) (f : Str) : PySem.W.plainGet K C f = true := c.pg
structure Con (K : PySem.W.Frag) (C : Addr) (f : Str) (v : V) (u : Value) : Prop where
  at_ : PySem.W.findIn K (.ref C) f = some (some u)
  rel : RelV v u
  get : PySem.W.specialIn K u "__get__" = some none
  cp : PySem.W.copiedNames.contains f = false
structure Meth (K : PySem.W.Frag) (C : Addr) (m : Str) (f : Addr) : Prop where
  at_ : PySem.W.findIn K (.ref C) m = some (some (.ref f))
  fn : PySem.W.isFn K (.ref f) = true
  kp : PySem.W.keepIn K (.ref f) = true
section
variable {X : Cx} {pins : List (Addr × Obj)} {σ : St} {H : Hp} {s : Shared} {a C dx : Addr} {fs : List (Str × V)} {f : Str} {v : V} {A : Around} {E : Value → Shared → Prop}
theorem Inv.made (I : Inv X pins σ H s) : Inv X pins σ (upd (upd H s.heap.objs.size (.own (s.heap.objs.size + 1))) (s.heap.objs.size + 1) (.ins C s.heap.objs.size []))
    { s with heap := (s.heap.push PySem.W.emptyDict).push (PySem.W.instObj C s.heap.objs.size) } := by
  have e1 : (s.heap.push PySem.W.emptyDict).get? s.heap.objs.size = some PySem.W.emptyDict := Heap.get?_push_size s.heap rfl
  have e2 : ((s.heap.push PySem.W.emptyDict).push (PySem.W.instObj C s.heap.objs.size)).get? (s.heap.objs.size + 1) = some (PySem.W.instObj C s.heap.objs.size) := by
    have := Heap.get?_push_size (s.heap.push PySem.W.emptyDict) (o := PySem.W.instObj C s.heap.objs.size) rfl
    rwa [Heap.size_push] at this
  have e3 : (s.heap.push PySem.W.emptyDict).Ns s.heap.objs.size (fun _ => none) := ⟨PySem.W.emptyDict, #[], _, e1, rfl, (fun e he => absurd he (by simp)), fun _ => rfl⟩
  have I1 := I.laid (a := s.heap.objs.size) (o := .own (s.heap.objs.size + 1)) (h' := s.heap.push PySem.W.emptyDict) (t' := s.toks) (fun b u q => Heap.get?_push_of_some _ q) (Nat.le_refl _) ⟨_, e1⟩
  refine I1.laid (a := s.heap.objs.size + 1) (o := .ins C s.heap.objs.size []) (t' := s.toks) (fun b u q => Heap.get?_push_of_some _ q) (Nat.le_of_eq (Heap.size_push _ _)) ?_
  have ne : s.heap.objs.size ≠ s.heap.objs.size + 1 := Nat.ne_of_lt (Nat.lt_succ_self _)
  refine ⟨by rw [upd_ne ne, upd_same], Nat.zero_le _, ne, e2, fun _ => none, (Heap.Ns1.of_empty e3).at fun o q => Heap.get?_push_of_some _ q, fun _ => True.intro, fun y hy => absurd rfl hy⟩
end
section
variable {X : Cx} {o e value : Expr} {f : Str} {pos pos' tpos : Pos} {ta tv : TE}
end
section
variable {X : Cx} {pins : List (Addr × Obj)} {σ : St} {H : Hp} {s : Shared} {A : Around} {E : Value → Shared → Prop} {Q : Value → Shared → Prop} {c : Value} {b : Bool}
inductive TyOf (K : PySem.W.Frag) (H : Hp) : V → Value → Prop where
  | non : TyOf K H .non (.type "NoneType")
  | bl (x : Bool) : TyOf K H (.bl x) (.type "bool")
  | int (i : Int) : TyOf K H (.int i) (.type "int")
  | str (x : Str) : TyOf K H (.str x) (.type "str")
  | flt (x : UInt64) : TyOf K H (.flt x) (.type "float")
  | lst {a : Addr} {xs : List V} (e : H a = some (.lst xs)) : TyOf K H (.ref a) (.type "list")
  | frz {a : Addr} {o : Obj} {xs : List V} (e : H a = some (.frz o (.lst xs))) : TyOf K H (.ref a) (.type "list")
  | tup {a : Addr} {xs : List V} (e : H a = some (.tup xs)) : TyOf K H (.ref a) (.type "tuple")
  | dK {a : Addr} {kvs : List (Key × V)} (e : H a = some (.dK kvs)) : TyOf K H (.ref a) (.type "dict")
  | dT {a : Addr} {kvs : List (List Key × V)} (e : H a = some (.dT kvs)) : TyOf K H (.ref a) (.type "dict")
  | ins {a C dx : Addr} {fs : List (Str × V)} (e : H a = some (.ins C dx fs)) (cl : Cls K C) (ha : PySem.W.findIn K (.ref C) "__class__" = some (some (.builtin "object.__class__")))
      (hn : PySem.W.specialIn K (.builtin "object.__class__") "__get__" = some (some (.builtin "getset_descriptor.__get__"))) (htk : PySem.W.takesIn K (.builtin "object.__class__") = some true)
      (hm : PySem.W.mroIn K C (.type "object") = some true) : TyOf K H (.ref a) (.ref C)
theorem isinst_ok {x : V} {u t : Value} (I : Inv X pins σ H s) (rx : RelV x u) (ty : TyOf X.K H x t) (e : PySem.W.kitOne X.K t c = some b) (h : ∀ tk, Q (.bool b) { s with toks := tk }) :
    wpAny (model X.prog X.w) A (call (.builtin "isinstance") [u, c]) Q E s := by
  cases ty with
  | non => cases (show u = Value.none from rx); exact PySem.W.kia_one PySem.W.kitx_none I.kIn True.intro e (fun z => nomatch z) h
  | bl y => cases (show u = Value.bool y from rx); exact PySem.W.kia_one PySem.W.kitx_bool I.kIn True.intro e (fun z => nomatch z) h
  | int i => obtain ⟨t, q⟩ := (show ∃ t, u = Value.int i t from rx); cases q; exact PySem.W.kia_one PySem.W.kitx_int I.kIn True.intro e (fun z => nomatch z) h
  | str y => obtain ⟨t, q⟩ := (show ∃ t, u = Value.str y t from rx); cases q; exact PySem.W.kia_one PySem.W.kitx_str I.kIn True.intro e (fun z => nomatch z) h
  | flt y => obtain ⟨t, q⟩ := (show ∃ t, u = Value.float y t from rx); cases q; exact PySem.W.kia_one PySem.W.kitx_float I.kIn True.intro e (fun z => nomatch z) h
  | @lst a xs ea =>
    cases (show u = Value.ref a from rx)
    obtain ⟨_, _, n, _, h1⟩ := (show ObjOk X.prog X.w H s.heap a (.lst xs) from I.hok a _ ea)
    exact PySem.W.kia_one PySem.W.kitx_list I.kIn ⟨_, h1, rfl⟩ e (fun z => nomatch z) h
  | @frz a ob xs ea =>
    cases (show u = Value.ref a from rx)
    obtain ⟨_, _, _, n, _, h1⟩ := (show ObjOk X.prog X.w H s.heap a (.frz ob (.lst xs)) from I.hok a _ ea)
    exact PySem.W.kia_one PySem.W.kitx_list I.kIn ⟨_, h1, rfl⟩ e (fun z => nomatch z) h
  | @tup a xs ea =>
    cases (show u = Value.ref a from rx)
    obtain ⟨_, _, _, p⟩ := (show ObjOk X.prog X.w H s.heap a (.tup xs) from I.hok a _ ea)
    obtain ⟨o, h1, h2, _⟩ := p
    exact PySem.W.kia_one PySem.W.kitx_tuple I.kIn ⟨o, h1, h2⟩ e (fun z => nomatch z) h
  | @dK a kvs ea =>
    cases (show u = Value.ref a from rx)
    obtain ⟨_, _, vs, _, p⟩ := (show ObjOk X.prog X.w H s.heap a (.dK kvs) from I.hok a _ ea)
    obtain ⟨o, es, ep, h1, h2, _⟩ := p
    exact PySem.W.kia_one PySem.W.kitx_dict I.kIn ⟨o, h1, h2.1⟩ e (fun z => nomatch z) h
  | @dT a kvs ea =>
    cases (show u = Value.ref a from rx)
    obtain ⟨_, _, xs, _, o, es, ep, h1, h2, _⟩ := (show ObjOk X.prog X.w H s.heap a (.dT kvs) from I.hok a _ ea)
    exact PySem.W.kia_one PySem.W.kitx_dict I.kIn ⟨o, h1, h2.1⟩ e (fun z => nomatch z) h
  | @ins a C dx fs ea cl ha hn htk hm =>
    cases (show u = Value.ref a from rx)
    obtain ⟨mA, O, _⟩ := ins_get I.hok ea
    obtain ⟨od, J, _⟩ := O.look
    exact PySem.W.kia_one (PySem.W.kitx_own (cl.get _) cl.hd ha hn htk hm) I.kIn J e (fun z => nomatch z) h
end
end L2
namespace L2
open PySem PySem.Spec PyProof.Rows
structure Room (k : Nat) (A : Around) : Prop where
  hd : A.handled = none
  dp : A.depth + 3 * k + 5 < recursionLimit
  un : A.units + 16 * k + 200 < cLine
theorem Room.mono {j k : Nat} {A : Around} (r : Room k A) (h : j ≤ k) : Room j A := ⟨r.hd, by have := r.dp; omega, by have := r.un; omega⟩
theorem Room.deeper {k : Nat} {A : Around} (r : Room (k + 1) A) (env : Env) : Room k (A.deeper env) :=
  ⟨r.hd, by have := r.dp; show A.depth + 1 + 3 * k + 5 < _; omega, by have := r.un; show A.units + 3 + 16 * k + 200 < _; omega⟩
theorem Room.depth {k : Nat} {A : Around} (r : Room k A) : A.depth < recursionLimit := by have := r.dp; omega
theorem Room.units {k : Nat} {A : Around} (r : Room k A) : A.units + 64 < cLine := by have := r.un; omega
noncomputable def tNil : TA := fun _ H Q => Q [] H
noncomputable def tCons (ta : TE) (tr : TA) : TA := fun σ H Q => ta σ H fun x H1 => tr σ H1 fun xs H2 => Q (x :: xs) H2
section
variable {X : Cx} {e : Expr} {es : List Expr} {te : TE} {t : TA} {pos : Pos}
theorem pa_nil : PA X [] tNil := fun _ _ _ _ H Q I h => Calls.spliced_nil ⟨[], H, I, .nil, h⟩
theorem pa_cons (ha : PE X e te) (hr : PA X es t) (hs : starEach (e :: es) X.env = (false, eval e X.env) :: starEach es X.env := by rfl) : PA X (e :: es) (tCons te t) := by
  intro pos pins s σ H Q I h
  rw [hs]
  show wpAny _ _ (spliced ((false, eval e X.env) :: backTo pos (starEach es X.env))) _ _ s
  refine Calls.spliced_cons (thn (ha pins s σ H _ I h) fun u s1 ⟨x, H1, I1, r1, q1⟩ => ?_)
  exact thn (hr pos pins s1 σ H1 _ I1 q1) fun us s2 ⟨xs, H2, I2, r2, q2⟩ => ⟨x :: xs, H2, I2, .cons r1 r2, q2⟩
noncomputable def tTup (t : TA) : TE := fun σ H Q => t σ H fun xs H1 => xs.length ≤ sizeLine ∧ ∀ p, H1 p = none → Q (.ref p) (upd H1 p (.tup xs))
noncomputable def tLst (t : TA) : TE := fun σ H Q => t σ H fun xs H1 => xs.length ≤ sizeLine ∧ ∀ p, H1 p = none → Q (.ref p) (upd H1 p (.lst xs))
theorem pe_tup {x1} (h : PA X es t) : PE X (.Tuple es x1 pos) (tTup t) := by
  intro pins s σ H Q I hq
  refine wpAny_Tuple_spliced (thn (h pos pins s σ H _ I hq) fun us s1 ⟨xs, H1, I1, r, z, q⟩ => ⟨by rw [← r.length]; exact z, ?_⟩)
  have hf : H1 s1.heap.objs.size = none := I1.hok.fresh (Nat.le_refl _)
  refine ⟨.ref s1.heap.objs.size, upd H1 s1.heap.objs.size (.tup xs), I1.laid (t' := s1.toks) (fun b u e => Heap.get?_push_of_some _ e) (Nat.le_refl _) ?_, rfl, q _ hf⟩
  exact ⟨z, us, r, ⟨_, Heap.get?_push_size _ rfl, rfl, _, rfl⟩⟩
theorem pe_lst (h : PA X es t) : PE X (.List es pos) (tLst t) := by
  intro pins s σ H Q I hq
  refine wpAny_List_spliced (thn (h pos pins s σ H _ I hq) fun us s1 ⟨xs, H1, I1, r, z, q⟩ => ⟨by rw [← r.length]; exact z, ?_⟩)
  have hf : H1 s1.heap.objs.size = none := I1.hok.fresh (Nat.le_refl _)
  refine ⟨.ref s1.heap.objs.size, upd H1 s1.heap.objs.size (.lst xs), I1.laid (t' := s1.toks) (fun b u e => Heap.get?_push_of_some _ e) (Nat.le_refl _) ?_, rfl, q _ hf⟩
  exact ⟨z, us, 0, r, Heap.get?_push_size _ rfl⟩
end
noncomputable abbrev Sp := List V → Hp → VK → XK → Prop
noncomputable abbrev CXT := List Env → Hp → Shared → XK → Value → Shared → Prop
structure Env0 (P : Program) (w : World) (K : PySem.W.Frag) (mg : Str → Option Value) (base : Heap) (A : Around) (outer : List Env) (s : Shared) (H : Hp) : Prop where
  frames : A.frames = some outer
  mod : Mod K mg base
  bs : ∀ b o, base.get? b = some o → s.heap.get? b = some o ∧ H b = none
  bsz : base.objs.size ≤ s.heap.objs.size
  funs : s.heap.FunFrames base outer
  frf : ∀ b ∈ frs outer, H b = none
  hok : HOk P w H s.heap
  bare : AllBare s.gens
noncomputable def CE (outer : List Env) (P : Program) (w : World) (H : Hp) (s : Shared) (Q : VK) (u : Value) (s' : Shared) : Prop :=
  ∃ v H', s'.os = s.os ∧ AllBare s'.gens ∧ Un (frs outer) [] H H' s.heap s'.heap ∧ HOk P w H' s'.heap ∧ RelV v u ∧ Q v H'
noncomputable def CR (CX : CXT) (outer : List Env) (P : Program) (w : World) (H : Hp) (s : Shared) (Q : VK) (E : XK) (r : Result) (s' : Shared) : Prop :=
  match r with
  | .ok (.ret u) => CE outer P w H s Q u s'
  | .ok _ => False
  | .error e => CX outer H s E e s'
structure FnOk (P : Program) (w : World) (K : PySem.W.Frag) (mg : Str → Option Value) (base : Heap) (CX : CXT) (k : Nat) (f : Addr) (fd : FuncData) (ps : List Str) (sp : Sp) : Prop where
  len : ∀ vs H Q E, sp vs H Q E → vs.length = ps.length
  run : ∀ (A : Around) (outer : List Env) (s : Shared) (H : Hp) (args : Args) (us : List Value) (vs : List V) (Q : VK) (E : XK), Room k A → Env0 P w K mg base A outer s H → BindsTo s fd args (ps.zip us) → Vals vs us → sp vs H Q E →
    codeAny (model P w) A (.call (.ref f) args) (CR CX outer P w H s Q E) s
theorem FnOk.mono {P : Program} {w : World} {K : PySem.W.Frag} {mg : Str → Option Value} {base : Heap} {CX : CXT} {j k : Nat} {f : Addr} {fd : FuncData} {ps : List Str} {sp : Sp} (F : FnOk P w K mg base CX j f fd ps sp) (h : j ≤ k) :
    FnOk P w K mg base CX k f fd ps sp := ⟨F.len, fun A outer s H args us vs Q E hr => F.run A outer s H args us vs Q E (hr.mono h)⟩
theorem FnOk.imp {P : Program} {w : World} {K : PySem.W.Frag} {mg : Str → Option Value} {base : Heap} {CX : CXT} {k : Nat} {f : Addr} {fd : FuncData} {ps : List Str} {sp sp' : Sp} (F : FnOk P w K mg base CX k f fd ps sp)
    (h : ∀ vs H Q E, sp' vs H Q E → sp vs H Q E) : FnOk P w K mg base CX k f fd ps sp' :=
  ⟨fun vs H Q E q => F.len vs H Q E (h _ _ _ _ q), fun A outer s H args us vs Q E hr he hb hv hs => F.run A outer s H args us vs Q E hr he hb hv (h _ _ _ _ hs)⟩
section
variable {X : Cx} {pins : List (Addr × Obj)} {σ : St} {H : Hp} {s s' : Shared}
theorem Inv.env0 (I : Inv X pins σ H s) : Env0 X.prog X.w X.K X.mg X.base X.A X.stack s H :=
  ⟨I.ok.frames, I.ok.mod, I.bs, Nat.le_trans I.ok.bsz I.sz, I.stack, I.stkFree, I.hok, I.bare⟩
theorem Inv.after {Q : VK} {u : Value} (I : Inv X pins σ H s) (h : CE X.stack X.prog X.w H s Q u s') : EP X pins σ Q u s' := by
  obtain ⟨v, H', os, bare, un, hok, r, q⟩ := h
  obtain ⟨hh, g, d, t, os'⟩ := s'
  obtain rfl : os' = s.os := os
  exact ⟨v, H', I.call (h' := hh) (g' := g) (d' := d) (t' := t) (ch := []) un hok bare (fun b z => absurd z (by simp)), r, q⟩
end
noncomputable def tCall (sp : Sp) (dvs : List V) (E : XK) (t : TA) : TE := fun σ H Q => t σ H fun vs H1 => sp (vs ++ dvs) H1 Q E
noncomputable def Binds (K : PySem.W.Frag) (fd : FuncData) (ps : List Str) (ds : List Value) : Prop :=
  ∀ (s : Shared) (us : List Value), K.In s.heap → (us ++ ds).length = ps.length → BindsTo s fd ⟨us, []⟩ (ps.zip (us ++ ds))
theorem Binds.all {K : PySem.W.Frag} {fd : FuncData} {ps : List Str} (h : ∀ us : List Value, us.length = ps.length → bindArgs fd ⟨us, []⟩ = pure (ps.zip us)) : Binds K fd ps [] := fun s us _ hl => by
  rw [List.append_nil] at hl ⊢
  exact .of_eq (h us hl)
noncomputable def Passes (CX : CXT) (X : Cx) (E : XK) : Prop := ∀ (pins : List (Addr × Obj)) (σ : St) (H : Hp) (s : Shared) (e : Value) (s' : Shared), Inv X pins σ H s → CX X.stack H s E e s' → X.xe e s'
section
variable {X : Cx} {CX : CXT} {k : Nat} {f C : Addr} {fd : FuncData} {ps : List Str} {sp : Sp} {dvs : List V} {ds : List Value} {E : XK} {x m : Str} {p pos apos : Pos} {e o : Expr} {es : List Expr} {ta : TE} {t : TA}
theorem run_fn {pins : List (Addr × Obj)} {σ : St} {H : Hp} {s : Shared} {Q : VK} {us : List Value} {vs : List V} (F : FnOk X.prog X.w X.K X.mg X.base CX k f fd ps sp) (hr : Room k X.A) (hb : Binds X.K fd ps ds) (hd : Vals dvs ds) (hx : Passes CX X E)
    (I : Inv X pins σ H s) (r : Vals vs us) (h : sp (vs ++ dvs) H Q E) : wpAny (model X.prog X.w) X.A (call (.ref f) us) (EP X pins σ Q) X.xe s := by
  have r2 : Vals (vs ++ dvs) (us ++ ds) := r.append hd
  have hl : (us ++ ds).length = ps.length := by rw [← r2.length]; exact F.len _ _ _ _ h
  refine wpAny_call (codeAny_mono (F.run X.A X.stack s H ⟨us, []⟩ (us ++ ds) (vs ++ dvs) Q E hr I.env0 (hb s us I.kIn hl) r2 h) fun r s' hq => ?_)
  cases r with
  | error e => exact hx pins σ H s e s' I hq
  | ok fl =>
    cases fl with
    | ret u => exact I.after hq
    | next => exact False.elim hq
    | brk => exact False.elim hq
    | cont => exact False.elim hq
theorem pe_call (F : FnOk X.prog X.w X.K X.mg X.base CX k f fd ps sp) (hr : Room k X.A) (hg : Gl X x) (hm : X.mg x = some (.ref f)) (hk : PySem.W.keepIn X.K (.ref f) = true) (hb : Binds X.K fd ps ds) (hd : Vals dvs ds) (hx : Passes CX X E)
    (ha : PA X (e :: es) t) (hdb : (x == ("__debug__" : Str)) = false := by decide) (he : starEach (e :: es) X.env = (false, eval e X.env) :: starEach es X.env := by rfl) (hpl : (backTo pos (starEach es X.env)).any (·.1) = false := by rfl) :
    PE X (.Call (.Name x p) (e :: es) [] pos) (tCall sp dvs E t) := by
  intro pins s σ H Q I h
  refine wpAny_Call_Name_kw (ld_glob I hg hm ?_ hdb)
  refine PySem.W.callWith_K (h₀ := X.base) I.ok.mod.kin hk (thn (ha pos pins s σ H _ I h) fun us s1 ⟨vs, H1, I1, r, q⟩ => ⟨I1.kIn, ?_⟩) he hpl
  exact run_fn F hr hb hd hx I1 r q
structure Mk (K : PySem.W.Frag) (C f : Addr) : Prop where
  makes : PySem.W.makesIn K C = true
  init : PySem.W.findIn K (.ref C) "__init__" = some (some (.ref f))
  fn : PySem.W.isFn K (.ref f) = true
  kp : PySem.W.keepIn K (.ref C) = true
end
section
variable {X : Cx} {CX : CXT} {k : Nat} {f C : Addr} {fd : FuncData} {ps ks : List Str} {sp : Sp} {E : XK} {x m : Str} {p pos apos kpos : Pos} {e o : Expr} {es : List Expr} {kws : List Keyword} {te ta : TE} {t tk : TA} {nm : Option Str}
structure KBinds (K : PySem.W.Frag) (fd : FuncData) (ps ks : List Str) (g : List Value → List Value → List Value) (gV : List V → List V → List V) : Prop where
  to : ∀ (s : Shared) (us ws : List Value), K.In s.heap → (g us ws).length = ps.length → BindsTo s fd ⟨us, ks.zip ws⟩ (ps.zip (g us ws))
  rel : ∀ {vs : List V} {us : List Value} {zs : List V} {ws : List Value}, Vals vs us → Vals zs ws → Vals (gV vs zs) (g us ws)
variable {g : List Value → List Value → List Value} {gV : List V → List V → List V}
end
structure FnScope (N P : List Str) (sc : Scope) : Prop where
  kind : sc.kind = .function
  co : sc.isCoroutine = false
  gen : sc.isGenerator = false
  nd : N.Nodup
  pre : N.take P.length = P
  par : ∀ x ∈ P, sc.names.lookup x = some .local ∨ sc.names.lookup x = some .cell
  nofree : ∀ y ∈ sc.names, y.2 ≠ .free
theorem bindL_out {kindOf : Str → Option NameKind} {x : Str} : ∀ {binds : List (Str × Value)} {m : Str → Option Value}, (∀ v, (x, v) ∉ binds) → bindL kindOf binds m x = m x
  | [], _, _ => rfl
  | (n, v) :: r, m, h => by
    unfold bindL
    rw [bindL_out fun w hw => h w (List.mem_cons_of_mem _ hw)]
    split
    · have : x ≠ n := by rintro rfl; exact h v List.mem_cons_self
      simp [this]
    · rfl
theorem bindC_out {kindOf : Str → Option NameKind} {x : Str} : ∀ {binds : List (Str × Value)} {m : Str → Option Value}, (∀ v, (x, v) ∉ binds) → bindC kindOf binds m x = m x
  | [], _, _ => rfl
  | (n, v) :: r, m, h => by
    unfold bindC
    rw [bindC_out fun w hw => h w (List.mem_cons_of_mem _ hw)]
    split
    · rfl
    · have : x ≠ n := by rintro rfl; exact h v List.mem_cons_self
      simp [this]
theorem bindL_get {kindOf : Str → Option NameKind} {x : Str} {v : Value} : ∀ {P : List Str} {vs : List Value} {i : Nat} {m : Str → Option Value}, P.Nodup → P[i]? = some x → vs[i]? = some v → kindOf x = some .local →
    bindL kindOf (P.zip vs) m x = some v
  | [], _, _, _, _, h, _, _ => by simp at h
  | _ :: _, [], _, _, _, _, h, _ => by simp at h
  | p :: P, w :: vs, 0, m, nd, h1, h2, hk => by
    simp at h1 h2; subst h1; subst h2
    show bindL kindOf ((p, w) :: P.zip vs) m p = _
    unfold bindL
    rw [bindL_out fun v hv => (List.nodup_cons.mp nd).1 (List.of_mem_zip hv).1, if_pos hk]
    simp
  | p :: P, w :: vs, i + 1, m, nd, h1, h2, hk => by
    show bindL kindOf ((p, w) :: P.zip vs) m x = _
    unfold bindL
    exact bindL_get (i := i) (List.nodup_cons.mp nd).2 (by simpa using h1) (by simpa using h2) hk
theorem bindC_get {kindOf : Str → Option NameKind} {x : Str} {v : Value} : ∀ {P : List Str} {vs : List Value} {i : Nat} {m : Str → Option Value}, P.Nodup → P[i]? = some x → vs[i]? = some v → kindOf x ≠ some .local →
    bindC kindOf (P.zip vs) m x = some v
  | [], _, _, _, _, h, _, _ => by simp at h
  | _ :: _, [], _, _, _, _, h, _ => by simp at h
  | p :: P, w :: vs, 0, m, nd, h1, h2, hk => by
    simp at h1 h2; subst h1; subst h2
    show bindC kindOf ((p, w) :: P.zip vs) m p = _
    unfold bindC
    rw [bindC_out fun v hv => (List.nodup_cons.mp nd).1 (List.of_mem_zip hv).1, if_neg hk]
    simp
  | p :: P, w :: vs, i + 1, m, nd, h1, h2, hk => by
    show bindC kindOf ((p, w) :: P.zip vs) m x = _
    unfold bindC
    exact bindC_get (i := i) (List.nodup_cons.mp nd).2 (by simpa using h1) (by simpa using h2) hk
noncomputable def start (N : List Str) (vs : List V) : St := vs.map some ++ List.replicate (N.length - vs.length) none
noncomputable def cxOf (CX : CXT) (P : Program) (w : World) (K : PySem.W.Frag) (mg : Str → Option Value) (base : Heap) (N : List Str) (qual : Str) (scope : Scope) (f : Addr) (cd : Value) (A : Around) (outer : List Env) (s : Shared) (H : Hp) (E : XK) : Cx where
  prog := P
  w := w
  K := K
  mg := mg
  base := base
  A := A.deeper (envOfC qual scope s.heap.objs.size f cd)
  N := N
  s₀ := s
  H₀ := H
  env := envOfC qual scope s.heap.objs.size f cd
  outer := outer
  stack := envOfC qual scope s.heap.objs.size f cd :: outer
  ex := []
  calm := true
  fn := fun _ => true
  pn := []
  xe := fun e s' => wpAny (model P w) (A.deeper (envOfC qual scope s.heap.objs.size f cd)) (leaving (envOfC qual scope s.heap.objs.size f cd) e) (fun _ s'' => CX outer H s E e s'') (fun e' s'' => CX outer H s E e' s'') s'
theorem cell_has {sc : Scope} {n : Nat} {x : Str} (h : sc.names.lookup x = some .cell) : ∃ c, (cellsFrom n sc.names []).lookup x = some c := by
  have q := PySem.W.cellsFrom_some sc.names n [] (.inl h)
  exact Option.isSome_iff_exists.mp q
theorem inv_start {CX : CXT} {P : Program} {w : World} {K : PySem.W.Frag} {mg : Str → Option Value} {base : Heap} {N ps : List Str} {qual : Str} {scope : Scope} {f : Addr} {cd : Value} {A : Around} {outer : List Env} {s s1 : Shared} {H : Hp} {E : XK} {us : List Value} {vs : List V}
    (S : FnScope N ps scope) (hd : A.handled = none) (e0 : Env0 P w K mg base A outer s H) (hl : vs.length = ps.length) (r : Vals vs us)
    (x : InCallC s s.heap.objs.size (bindL (envOfC qual scope s.heap.objs.size f cd).kindOf (ps.zip us) fun _ => none) (cellsFrom (s.heap.objs.size + 1) scope.names []) (bindC (envOfC qual scope s.heap.objs.size f cd).kindOf (ps.zip us) fun _ => none) s1) :
    Inv (cxOf CX P w K mg base N qual scope f cd A outer s H E) [] (start N vs) H s1 := by
  have hpl : ps.length ≤ N.length := by have := congrArg List.length S.pre; rw [List.length_take] at this; omega
  obtain ⟨h1, tk, rfl, hk⟩ := x.done
  have noA : ∀ b : Addr, b ∉ (cxOf CX P w K mg base N qual scope f cd A outer s H E).ex := fun b z => absurd (show b ∈ ([] : List Addr) from z) (by simp)
  refine ⟨⟨e0.mod, S.kind, rfl, rfl, Nat.le_refl _, fun y z c h1 h2 => ?_, fun y hy => ?_, fun y c _ h => ?_, fun _ => hd, Around.frames_deeper e0.frames, .inr ⟨rfl, rfl⟩, fun b z => absurd z (noA b), e0.bs, e0.bsz, fun b _ _ => noA b, fun b z => absurd z (noA b), e0.funs, e0.frf⟩,
    rfl, e0.bare, Un.kept hk, ⟨_, x.toInCall.ns, fun i y v h1 h2 h3 => ?_⟩, fun y c h => ⟨_, x.cell y c h⟩, e0.hok.fresh (Nat.le_refl _), fun y c h => ?_, fun p hp => absurd (show p ∈ ([] : List (Addr × Obj)) from hp) (by simp), e0.hok.kept hk, ?_⟩
  · exact name_of_addr x.apart (PySem.mem_of_lookup h1) (PySem.mem_of_lookup h2)
  · have hy : scope.names.lookup y = some .cell ∨ scope.names.lookup y = some .free := hy
    rcases hy with hy | hy
    · exact cell_has hy
    · exact absurd rfl (S.nofree _ (PySem.mem_of_lookup hy))
  · exact Nat.le_of_lt (x.above y c (PySem.mem_of_lookup h))
  · have hi : i < vs.length := by
      unfold start at h2
      by_cases hi : i < vs.length
      · exact hi
      · rw [List.getElem?_append_right (by simpa using hi)] at h2
        rw [List.getElem?_replicate] at h2
        split at h2 <;> cases h2
    have ha : vs[i]? = some v := by
      unfold start at h2
      rw [List.getElem?_append_left (by simpa using hi), List.getElem?_map] at h2
      cases e : vs[i]? with
      | none => rw [e] at h2; cases h2
      | some a => rw [e] at h2; cases h2; rfl
    obtain ⟨u, hu, rv⟩ := r.get ha
    have hp : ps[i]? = some y := by
      rw [← S.pre, List.getElem?_take_of_lt (by omega)]; exact h1
    have ndP : ps.Nodup := by rw [← S.pre]; exact S.nd.sublist (List.take_sublist _ _)
    refine ⟨u, rv, ?_⟩
    rcases S.par y (List.mem_of_getElem? hp) with k | k
    · exact .inl ⟨k, bindL_get ndP hp hu k⟩
    · obtain ⟨c, e⟩ := cell_has (n := s.heap.objs.size + 1) k
      refine .inr ⟨.inl k, c, e, ?_⟩
      have q := x.cell y c e
      rw [bindC_get ndP hp hu (by show scope.names.lookup y ≠ _; rw [k]; decide)] at q
      exact q
  · exact e0.hok.fresh (Nat.le_of_lt (x.above y c (PySem.mem_of_lookup h)))
  · unfold start
    show _ = N.length
    rw [List.length_append, List.length_map, List.length_replicate]
    omega
theorem fn_of {CX : CXT} {P : Program} {w : World} {K : PySem.W.Frag} {mg : Str → Option Value} {base : Heap} {k : Nat} {f : Addr} {name qual : Str} {params : Arguments} {body : List Stmt} {scope : Scope} {dV kV doc pm cdv ct oc : Value} {an od : Option Addr}
    {osl : Array (Option Value)} {N ps : List Str} {sp : Sp} (lk : K.lookup f = some ⟨oc, od, .func (PySem.W.fnOf name qual params body scope dV kV doc pm an cdv ct), osl⟩) (hcd : PySem.W.codeIn K cdv qual = true) (S : FnScope N ps scope)
    (len : ∀ vs H Q E, sp vs H Q E → vs.length = ps.length)
    (hbody : ∀ (A : Around) (outer : List Env) (s : Shared) (H : Hp) (vs : List V) (Q : VK) (E : XK), Room k (A.deeper (envOfC qual scope s.heap.objs.size f cdv)) → sp vs H Q E →
      ∃ t, PSs (cxOf CX P w K mg base N qual scope f cdv A outer s H E) body t ∧ t { nx := fun _ H' => Q .non H', rt := Q } (start N vs) H) :
    FnOk P w K mg base CX (k + 1) f (PySem.W.fnOf name qual params body scope dV kV doc pm an cdv ct) ps sp := by
  refine ⟨len, fun A outer s H args us vs Q E hr e0 hb r hsp => ?_⟩
  have hl := len _ _ _ _ hsp
  have KX : K.In s.heap := e0.mod.kin.keeps fun b o e => (e0.bs b o e).1
  have lim : s.heap.NoLimit := e0.mod.nolimit.keeps fun b o e => (e0.bs b o e).1
  have hkind : ∀ y ∈ ps.zip us, scope.names.lookup y.1 = some .local ∨ (scope.names.lookup y.1 = some .cell ∧ ((cellsFrom (s.heap.objs.size + 1) scope.names []).lookup y.1).isSome = true) := fun ⟨n, v⟩ hy => by
    rcases S.par n (List.of_mem_zip hy).1 with q | q
    · exact .inl q
    · exact .inr ⟨q, PySem.W.cellsFrom_some _ _ _ (.inl q)⟩
  refine codeAny_call_function hr.depth (KX _ _ lk) rfl S.co S.gen rfl (PySem.W.codeRec_of KX hcd) (hb _ _ _ _ ?_)
  refine wpAny_newFunctionEnv_cells S.kind hkind fun env he s1 x => ?_
  subst he
  refine ⟨lim.keeps x.toInCall.keep, codeAny_func ?_⟩
  obtain ⟨t, ht, hq⟩ := hbody A outer s H vs Q E (hr.deeper _) hsp
  have I : Inv (cxOf CX P w K mg base N qual scope f cdv A outer s H E) [] (start N vs) H s1 := inv_start S hr.hd e0 hl r x
  refine wpAny_mono (ht [] s1 (start N vs) H _ I hq) (fun fl s' hs => ?_) fun e s' hs => hs
  have fin : ∀ {σ' : St} {H' : Hp} {v : V} {u : Value}, Inv (cxOf CX P w K mg base N qual scope f cdv A outer s H E) [] σ' H' s' → RelV v u → Q v H' → CE outer P w H s Q u s' :=
    fun {σ' H' v u} J rv q => ⟨v, H', J.os, J.bare, J.base, J.hok, rv, q⟩
  cases fl with
  | ret u =>
    obtain ⟨v, σ', H', J, rv, q⟩ := hs
    exact fin J rv q
  | next =>
    obtain ⟨σ', H', J, q⟩ := hs
    exact fin (v := V.non) (u := Value.none) J rfl q
  | brk =>
    obtain ⟨_, _, _, q⟩ := hs
    exact False.elim q
  | cont =>
    obtain ⟨_, _, _, q⟩ := hs
    exact False.elim q
end L2
namespace L2
open PySem PySem.Spec PyProof.Rows
section
variable {X : Cx} {x : Str} {p pos : Pos} {e : Expr} {es : List Expr} {t : TA} {id T : String} {r : List V → Hp → VK → Prop}
noncomputable def tCB (r : List V → Hp → VK → Prop) (t : TA) : TE := fun σ H Q => t σ H fun vs H1 => r vs H1 Q
theorem pe_callB (hc : CallR X (.builtin id) r) (hg : Gl X x) (hm : X.mg x = none) (hv : bootBuiltins x = some (.builtin id)) (ha : PA X (e :: es) t) (hn : x ≠ "__name__" := by decide) (hdb : (x == ("__debug__" : Str)) = false := by decide)
    (he : starEach (e :: es) X.env = (false, eval e X.env) :: starEach es X.env := by rfl) (hpl : (backTo pos (starEach es X.env)).any (·.1) = false := by rfl) : PE X (.Call (.Name x p) (e :: es) [] pos) (tCB r t) := by
  intro pins s σ H Q I h
  refine wpAny_Call_Name_kw (ld_blt I hg hm hv ?_ hn hdb)
  exact PyProof.Rows.callWith_builtin1 (thn (ha pos pins s σ H _ I h) fun us s1 ⟨vs, H1, I1, r1, q1⟩ => hc pins s1 σ H1 vs us Q I1 r1 q1) he hpl
theorem pe_callTy (hc : CallR X (.type T) r) (hg : Gl X x) (hm : X.mg x = none) (hv : bootBuiltins x = some (.type T)) (ha : PA X (e :: es) t) (hn : x ≠ "__name__" := by decide) (hdb : (x == ("__debug__" : Str)) = false := by decide)
    (he : starEach (e :: es) X.env = (false, eval e X.env) :: starEach es X.env := by rfl) (hpl : (backTo pos (starEach es X.env)).any (·.1) = false := by rfl) : PE X (.Call (.Name x p) (e :: es) [] pos) (tCB r t) := by
  intro pins s σ H Q I h
  refine wpAny_Call_Name_kw (ld_blt I hg hm hv ?_ hn hdb)
  exact PyProof.Rows.callWith_type1 (thn (ha pos pins s σ H _ I h) fun us s1 ⟨vs, H1, I1, r1, q1⟩ => hc pins s1 σ H1 vs us Q I1 r1 q1) he hpl
end
end L2
namespace HT
open PySem PyProof.Rows
section
open PySem.SeqAt
open PySem.AutoSeq1 (wpAny_loadPart')
open PySem.MeetsSeq PySem.MeetsSeq2 PySem.MeetsSeq3
end
section
variable {prog : Program} {w : World} {A : Around} {E : Value → Shared → Prop} {s : Shared}
noncomputable def sIx (n d : Nat) : Option Int → Nat
  | none => d
  | some v => if v < 0 then (v + (n : Int)).toNat else min v.toNat n
theorem sIx_none (n d : Nat) : sIx n d none = d := rfl
theorem sIx_nat (n d k : Nat) : sIx n d (some (k : Int)) = min k n := by
  show (if (k : Int) < 0 then ((k : Int) + (n : Int)).toNat else min (k : Int).toNat n) = min k n
  rw [if_neg (by omega), Int.toNat_natCast]
end
end HT
namespace L2
open PySem PySem.Spec PyProof.Rows
noncomputable abbrev TO := St → Hp → (Option Int → Hp → Prop) → Prop
noncomputable def PO (X : Cx) (e : Option Expr) (t : TO) : Prop :=
  ∀ (pins : List (Addr × Obj)) (s : Shared) (σ : St) (H : Hp) (Q : Option Int → Hp → Prop), Inv X pins σ H s → t σ H Q →
    wpAny (model X.prog X.w) X.A (evalPart e X.env) (fun u s' => ∃ o H', Inv X pins σ H' s' ∧ IsPart u o ∧ Q o H') X.xe s
noncomputable def tNoPart : TO := fun _ H Q => Q none H
noncomputable def tPart (t : TE) : TO := fun σ H Q => t σ H fun x H1 => ∃ i, x = .int i ∧ Q (some i) H1
section
variable {X : Cx} {e : Expr} {te : TE} {lo hi : Option Expr} {tl th : TO} {pos p2 : Pos}
theorem po_none : PO X none tNoPart := by
  intro pins s σ H Q I h
  rw [evalPart_none]
  exact wpAny_pure ⟨none, H, I, .none, h⟩
theorem po_some (h : PE X e te) : PO X (some e) (tPart te) := by
  intro pins s σ H Q I hw
  rw [evalPart_some]
  refine thn (h pins s σ H _ I hw) fun u s1 ⟨x, H1, I1, r1, q1⟩ => ?_
  obtain ⟨i, rfl, q⟩ := q1
  obtain ⟨t, rfl⟩ := r1
  exact ⟨some i, H1, I1, .int i t, q⟩
noncomputable def SlR (X : Cx) (r : V → Option Int → Option Int → Hp → VK → Prop) : Prop :=
  ∀ (pins : List (Addr × Obj)) (s : Shared) (σ : St) (H : Hp) (x : V) (v vl vu : Value) (lo hi : Option Int) (sl : Addr) (Q : VK), Inv X pins σ H s → RelV x v → s.heap.IsSliceOf sl vl vu .none → IsPart vl lo → IsPart vu hi → r x lo hi H Q →
    ∃ T id, typeLookup (.type T) "__getitem__" = pure (some (.builtin id)) ∧ s.TypeIs v T ∧ wpAny (model X.prog X.w) X.A (getItem v (.ref sl)) (EP X pins σ Q) X.xe s
theorem SlR.or {r r' : V → Option Int → Option Int → Hp → VK → Prop} (h : SlR X r) (h' : SlR X r') : SlR X (fun x lo hi H Q => r x lo hi H Q ∨ r' x lo hi H Q) := by
  intro pins s σ H x v vl vu lo hi sl Q I rx hs pl pu q
  rcases q with q | q
  · exact h pins s σ H x v vl vu lo hi sl Q I rx hs pl pu q
  · exact h' pins s σ H x v vl vu lo hi sl Q I rx hs pl pu q
noncomputable def tSl (r : V → Option Int → Option Int → Hp → VK → Prop) (te : TE) (tl th : TO) : TE := fun σ H Q => te σ H fun x H1 => tl σ H1 fun l H2 => th σ H2 fun u H3 => r x l u H3 Q
theorem pe_slice {r : V → Option Int → Option Int → Hp → VK → Prop} (hr : SlR X r) (he : PE X e te) (hl : PO X lo tl) (hu : PO X hi th) : PE X (.Subscript e (.Slice lo hi none p2) pos) (tSl r te tl th) := by
  intro pins s σ H Q I h
  refine Subscript_ (thn (he pins s σ H _ I h) fun v s1 ⟨x, H1, I1, r1, q1⟩ => ?_)
  refine wpAny_Slice (thn (hl pins s1 σ H1 _ I1 q1) fun vl s2 ⟨l, H2, I2, pl, q2⟩ => thn (hu pins s2 σ H2 _ I2 q2) fun vu s3 ⟨u, H3, I3, pu, q3⟩ => ?_)
  rw [evalPart_none]
  refine wpAny_pure ?_
  have I4 : Inv X pins σ H3 { s3 with heap := s3.heap.push { cls := .type "slice", data := .fields #[vl, vu, .none] } } := I3.kept (t' := s3.toks) fun b ob q => Heap.get?_push_of_some _ q
  obtain ⟨T, id, hT, ht, hg⟩ := hr pins { s3 with heap := s3.heap.push { cls := .type "slice", data := .fields #[vl, vu, .none] } } σ H3 x v vl vu l u s3.heap.objs.size Q I4 r1 (Heap.IsSliceOf.new ..) pl pu q3
  show wpAny (model X.prog X.w) X.A (subscriptTail e (.Slice lo hi none p2) v (.ref s3.heap.objs.size)) (EP X pins σ Q) X.xe { s3 with heap := s3.heap.push { cls := .type "slice", data := .fields #[vl, vu, .none] } }
  exact tail_any (ops := [.ref s3.heap.objs.size, v]) ht hT hg (by with_unfolding_all rfl)
noncomputable def cutV (xs : List V) (lo hi : Option Int) : List V := (xs.drop (HT.sIx xs.length 0 lo)).take (HT.sIx xs.length xs.length hi - HT.sIx xs.length 0 lo)
theorem cutV_length (xs : List V) (lo hi : Option Int) : (cutV xs lo hi).length ≤ xs.length := by
  unfold cutV
  rw [List.length_take, List.length_drop]
  omega
end
end L2
namespace L2
open PySem PySem.Spec PyProof.Rows
noncomputable def ixN (n : Nat) (i : Int) : Option Nat := if 0 ≤ i then (if i < n then some i.toNat else none) else if -(n : Int) ≤ i then some (i + n).toNat else none
noncomputable def atI {α : Type} (xs : List α) (i : Int) : Option α := (ixN xs.length i).bind fun j => xs[j]?
theorem ixN_seq {n : Nat} {i : Int} {j : Nat} (h : ixN n i = some j) : seqIndex? i n = some j ∧ j < n ∧ -(n : Int) ≤ i ∧ i < n := by
  unfold ixN at h
  by_cases h0 : 0 ≤ i
  · rw [if_pos h0] at h
    by_cases h1 : i < n
    · rw [if_pos h1] at h
      have e : i.toNat = j := Option.some.inj h
      exact ⟨by rw [seqIndex_of h0 h1, e], by omega, by omega, h1⟩
    · rw [if_neg h1] at h; cases h
  · rw [if_neg h0] at h
    by_cases h1 : -(n : Int) ≤ i
    · rw [if_pos h1] at h
      have e : (i + n).toNat = j := Option.some.inj h
      exact ⟨by rw [seqIndex_neg (by omega) h1, e], by omega, h1, by omega⟩
    · rw [if_neg h1] at h; cases h
theorem atI_get {α : Type} {xs : List α} {i : Int} {v : α} (h : atI xs i = some v) : ∃ j, seqIndex? i xs.length = some j ∧ xs[j]? = some v ∧ j < xs.length ∧ -(xs.length : Int) ≤ i ∧ i < xs.length := by
  unfold atI at h
  cases e : ixN xs.length i with
  | none => rw [e] at h; cases h
  | some j =>
    rw [e] at h
    obtain ⟨h1, h2, h3, h4⟩ := ixN_seq e
    exact ⟨j, h1, h, h2, h3, h4⟩
theorem atI_nat {α : Type} {xs : List α} {j : Nat} {v : α} (h : xs[j]? = some v) : atI xs (j : Int) = some v := by
  have hj : j < xs.length := (List.getElem?_eq_some_iff.mp h).1
  have e : ixN xs.length (j : Int) = some j := by
    unfold ixN
    rw [if_pos (by omega), if_pos (by omega)]; simp
  unfold atI; rw [e]; exact h
noncomputable def PlainIx (b : Expr) : Prop := ∀ o i, subscripted b false o i = operate [o, i] (getItem o i)
noncomputable def IxR (X : Cx) (r : R2) : Prop :=
  ∀ (value slice : Expr) (pins : List (Addr × Obj)) (s : Shared) (σ : St) (H : Hp) (x y : V) (v u : Value) (Q : VK), Inv X pins σ H s → RelV x v → RelV y u → r x y H Q →
    subscripted slice false v u = operate [v, u] (getItem v u) → wpAny (model X.prog X.w) X.A (subscriptTail value slice v u) (EP X pins σ Q) X.xe s
noncomputable def MtR (X : Cx) (id : String) (r : V → List V → Hp → VK → Prop) : Prop :=
  ∀ (pins : List (Addr × Obj)) (s : Shared) (σ : St) (H : Hp) (x : V) (xs : List V) (v : Value) (us : List Value) (Q : VK), Inv X pins σ H s → RelV x v → Vals xs us → r x xs H Q →
    wpAny (model X.prog X.w) X.A (call (.builtin id) (v :: us)) (EP X pins σ Q) X.xe s
section
variable {X : Cx} {a b : Expr} {ta tb : TE} {pos : Pos}
theorem IxR.or {r r' : R2} (h : IxR X r) (h' : IxR X r') : IxR X (fun x y H Q => r x y H Q ∨ r' x y H Q) := by
  intro value slice pins s σ H x y v u Q I rx ry q hs
  rcases q with q | q
  · exact h value slice pins s σ H x y v u Q I rx ry q hs
  · exact h' value slice pins s σ H x y v u Q I rx ry q hs
theorem MtR.or {id : String} {r r' : V → List V → Hp → VK → Prop} (h : MtR X id r) (h' : MtR X id r') : MtR X id (fun x xs H Q => r x xs H Q ∨ r' x xs H Q) := by
  intro pins s σ H x xs v us Q I rx rs q
  rcases q with q | q
  · exact h pins s σ H x xs v us Q I rx rs q
  · exact h' pins s σ H x xs v us Q I rx rs q
theorem pe_ix {r : R2} (hr : IxR X r) (ha : PE X a ta) (hb : PE X b tb) (hs : PlainIx b) : PE X (.Subscript a b pos) (tOp r ta tb) := by
  intro pins s σ H Q I h
  exact Subscript_ (binT ha hb I h fun v u s2 x y H2 I2 rx ry q => hr a b pins s2 σ H2 x y v u Q I2 rx ry q (hs _ _))
noncomputable def rIxL (K : PySem.W.Frag) : R2 := fun x y H Q => ∃ p xs i v, x = .ref p ∧ y = .int i ∧ SqL K H p xs ∧ atI xs i = some v ∧ Q v H
noncomputable def rIxT (K : PySem.W.Frag) : R2 := fun x y H Q => ∃ p xs i v, x = .ref p ∧ y = .int i ∧ SqT K H p xs ∧ atI xs i = some v ∧ Q v H
theorem ix_list : IxR X (rIxL X.K) := by
  intro value slice pins s σ H x y v u Q I rx ry h hs
  obtain ⟨p, xs, i, z, rfl, rfl, hq, he, q⟩ := h
  cases rx
  obtain ⟨t, rfl⟩ := ry
  obtain ⟨its, r, pl, hz⟩ := I.list hq
  obtain ⟨j, h1, h2, h3, h4, h5⟩ := atI_get he
  obtain ⟨w, ew, rw'⟩ := r.get h2
  have hl := r.length
  have hn := line63
  have fin : EP X pins σ Q w s := ⟨z, H, I, rw', q⟩
  by_cases h0 : 0 ≤ i
  · have hj : i.toNat = j := by
      rw [seqIndex_of h0 h5] at h1
      exact Option.some.inj h1
    exact item_listR pl.isList h0 (by omega) (by rw [hj]; simpa using ew) fin hs
  · have hj : (i + (its.toArray.size : Int)).toNat = j := by
      rw [seqIndex_neg (by omega) h4] at h1
      rw [List.size_toArray, ← hl]
      exact Option.some.inj h1
    exact subscriptTail_builtinR (x := w) pl.isList.typeIs slot_list_getitem.lookup
      (wpAny_getItem_list_neg (Q := fun r s' => r = w ∧ EP X pins σ Q r s') pl.isList (by omega) (by rw [List.size_toArray] <;> omega) (by omega) (by rw [hj]; simpa using ew) ⟨rfl, fin⟩) hs
theorem ix_tup : IxR X (rIxT X.K) := by
  intro value slice pins s σ H x y v u Q I rx ry h hs
  obtain ⟨p, xs, i, z, rfl, rfl, hq, he, q⟩ := h
  cases rx
  obtain ⟨t, rfl⟩ := ry
  obtain ⟨its, r, pl, hz⟩ := I.tuple hq
  obtain ⟨j, h1, h2, h3, h4, h5⟩ := atI_get he
  obtain ⟨w, ew, rw'⟩ := r.get h2
  have hl := r.length
  have hn := line63
  have fin : EP X pins σ Q w s := ⟨z, H, I, rw', q⟩
  exact subscriptTail_builtinR (x := w) pl.typeIs slot_tuple_getitem.lookup
    (getItem_tuple (j := j) (Q := fun r s' => r = w ∧ EP X pins σ Q r s') pl (by omega) (by omega) (by rw [List.size_toArray, ← hl]; exact h1) (by simpa using ew) ⟨rfl, fin⟩) hs
theorem Inv.lst {pins : List (Addr × Obj)} {σ : St} {H : Hp} {s : Shared} {p : Addr} {xs : List V} (I : Inv X pins σ H s) (h : H p = some (.lst xs)) :
    ∃ (its : List Value) (n : Nat), Vals xs its ∧ s.heap.get? p = some { cls := .type "list", data := .seq its.toArray n } ∧ xs.length ≤ sizeLine := by
  obtain ⟨z, its, n, r, e⟩ := I.hok p _ h
  exact ⟨its, n, r, e, z⟩
theorem slice_bounds (lo hi : Option Int) (n : Nat) : (sliceBounds lo hi none n).1 = ((HT.sIx n 0 lo : Nat) : Int) ∧ (sliceBounds lo hi none n).2.1 = ((HT.sIx n n hi : Nat) : Int) ∧ (sliceBounds lo hi none n).2.2 = 1 := by
  refine ⟨?_, ?_, rfl⟩
  · cases lo with
    | none => simp [sliceBounds, HT.sIx]
    | some i =>
      simp only [sliceBounds, HT.sIx, Option.getD_none, show (1 : Int) > 0 by decide, if_true]
      by_cases h : i < 0
      · simp only [h, if_true] <;> omega
      · simp only [h, if_false] <;> omega
  · cases hi with
    | none => simp [sliceBounds, HT.sIx]
    | some i =>
      simp only [sliceBounds, HT.sIx, Option.getD_none, show (1 : Int) > 0 by decide, if_true]
      by_cases h : i < 0
      · simp only [h, if_true] <;> omega
      · simp only [h, if_false] <;> omega
theorem slicePick_cut (its : List Value) (lo hi : Option Int) : slicePick its.toArray lo hi none = ((its.drop (HT.sIx its.length 0 lo)).take (HT.sIx its.length its.length hi - HT.sIx its.length 0 lo)).toArray := by
  obtain ⟨h1, h2, h3⟩ := slice_bounds lo hi its.toArray.size
  unfold slicePick
  rw [h1, h2, h3]
  simp only [sliceRange_one, pick_run, List.size_toArray] <;> rfl
noncomputable def rSlL (K : PySem.W.Frag) : V → Option Int → Option Int → Hp → VK → Prop := fun x lo hi H Q => ∃ a xs, x = .ref a ∧ SqL K H a xs ∧ ∀ p, H p = none → Q (.ref p) (upd H p (.lst (cutV xs lo hi)))
theorem sl_list : SlR X (rSlL X.K) := by
  intro pins s σ H x v vl vu lo hi sl Q I rx hs pl pu h
  obtain ⟨a, xs, rfl, hx, q⟩ := h
  cases rx
  obtain ⟨its, r, ht, hz⟩ := I.list hx
  have hlen := r.length
  refine ⟨"list", _, slot_list_getitem.lookup, ht.isList.typeIs, ?_⟩
  refine wpAny_getItem_list_slice ht.isList hs pl pu .none (by simp) ?_ (by rw [List.size_toArray] <;> omega)
  rw [slicePick_cut, ← hlen]
  refine ⟨.ref s.heap.objs.size, _, I.laid (t' := s.toks) (o := .lst (cutV xs lo hi)) (fun b ob q => Heap.get?_push_of_some _ q) (Nat.le_refl _) ?_, rfl, q _ (I.hok.fresh (Nat.le_refl _))⟩
  exact ⟨Nat.le_trans (cutV_length xs lo hi) hz, _, 0, (r.drop (HT.sIx xs.length 0 lo)).take (HT.sIx xs.length xs.length hi - HT.sIx xs.length 0 lo), Heap.get?_push_size _ rfl⟩
theorem call_len_seq : CallR X (.builtin "len") (fun xs H Q => ∃ p ys, xs = [.ref p] ∧ (SqL X.K H p ys ∨ SqT X.K H p ys) ∧ Q (.int ys.length) H) := by
  intro pins s σ H xs us Q I r h
  obtain ⟨p, ys, rfl, hq, q⟩ := h
  obtain ⟨u, rfl, rx⟩ := vals1 r
  cases rx
  have hn := line63
  rcases hq with hq | hq
  · obtain ⟨its, r', pl, hz⟩ := I.list hq
    have hlen := r'.length
    exact Calls.call_len_list pl.isList (by simp only [List.size_toArray] <;> omega) ⟨.int ys.length, H, I.tok _, ⟨s.toks + 1, by rw [List.size_toArray, hlen]⟩, q⟩
  · obtain ⟨its, r', pl, hz⟩ := I.tuple hq
    have hlen := r'.length
    exact len_tuple pl (by simp only [List.size_toArray] <;> omega) ⟨.int ys.length, H, I.tok _, ⟨s.toks + 1, by rw [List.size_toArray, hlen]⟩, q⟩
theorem CallR.or {f : Value} {r r' : List V → Hp → VK → Prop} (h : CallR X f r) (h' : CallR X f r') : CallR X f (fun xs H Q => r xs H Q ∨ r' xs H Q) := by
  intro pins s σ H xs us Q I rs q
  rcases q with q | q
  · exact h pins s σ H xs us Q I rs q
  · exact h' pins s σ H xs us Q I rs q
theorem call_list_of : CallR X (.type "list") (fun xs H Q => ∃ p ys, xs = [.ref p] ∧ (SqL X.K H p ys ∨ SqT X.K H p ys) ∧ ∀ l, H l = none → Q (.ref l) (upd H l (.lst ys))) := by
  intro pins s σ H xs us Q I r h
  obtain ⟨p, ys, rfl, hq, q⟩ := h
  obtain ⟨u, rfl, rx⟩ := vals1 r
  cases rx
  have fin : ∀ (its : List Value), Vals ys its → ys.length ≤ sizeLine → ∀ (h' : Heap) (c' : Nat), (∀ b o', s.heap.get? b = some o' → h'.get? b = some o') →
      h'.get? s.heap.objs.size = some { cls := .type "list", dict := none, data := .seq its.toArray c', slots := #[] } → EP X pins σ Q (.ref s.heap.objs.size) { s with heap := h' } := fun its r' hz h' c' kp e =>
    ⟨.ref s.heap.objs.size, _, I.laid (t' := s.toks) kp (Nat.le_refl _) (show ObjOk X.prog X.w _ h' _ (.lst ys) from ⟨hz, its, c', r', e⟩), rfl, q _ (I.hok.fresh (Nat.le_refl _))⟩
  rcases hq with hq | hq
  · obtain ⟨its, r', pl, hz⟩ := I.list hq
    have hlen := r'.length
    obtain ⟨o, ho, hc, n, hd⟩ := pl.isList
    exact call_list_seq p (.inl rfl) ho hc hd (fun h' c' kp e => fin its r' hz h' c' kp e) (by simp only [List.size_toArray] <;> omega)
  · obtain ⟨its, r', pl, hz⟩ := I.tuple hq
    have hlen := r'.length
    obtain ⟨o, ho, hc, n, hd⟩ := pl
    exact call_list_seq p (.inr rfl) ho hc hd (fun h' c' kp e => fin its r' hz h' c' kp e) (by simp only [List.size_toArray] <;> omega)
noncomputable def tyV (K : PySem.W.Frag) (T : String) (x : V) (H : Hp) : Prop := match x with
  | .str _ => T = "str"
  | .int _ => T = "int"
  | .ref p => (T = "list" ∧ ∃ xs, SqL K H p xs) ∨ (T = "tuple" ∧ ∃ o, K.lookup p = some o ∧ o.cls = .type "tuple" ∧ o.dict = none) ∨
      (T = "dict" ∧ ((∃ kvs, H p = some (.dK kvs)) ∨ ∃ kvs, H p = some (.dT kvs))) ∨ (T = "set" ∧ ∃ S n, H p = some (.set S n))
  | _ => False
theorem tyV_is {pins : List (Addr × Obj)} {σ : St} {H : Hp} {s : Shared} {T : String} {x : V} {v : Value} (I : Inv X pins σ H s) (r : RelV x v) (ty : tyV X.K T x H) :
    s.TypeIs v T ∧ ∀ a, v = .ref a → ∃ ob, s.heap.get? a = some ob ∧ ob.dict = none := by
  cases x with
  | str z =>
    obtain ⟨t, rfl⟩ := r
    cases (show T = "str" from ty)
    exact ⟨typeIs_str s z t, fun _ e => nomatch e⟩
  | int i =>
    obtain ⟨t, rfl⟩ := r
    cases (show T = "int" from ty)
    exact ⟨typeIs_int s i t, fun _ e => nomatch e⟩
  | ref p =>
    cases r
    rcases ty with ⟨rfl, xs, hq⟩ | ⟨rfl, o, hk, hc, hd⟩ | ⟨rfl, hk⟩ | ⟨rfl, S, n, hk⟩
    · obtain ⟨its, _, pl, _⟩ := I.list hq
      refine ⟨pl.isList.typeIs, fun a e => ?_⟩
      cases e
      obtain ⟨o, n, e, c, hd, _⟩ := pl
      exact ⟨o, e, hd⟩
    · refine ⟨⟨o, I.kIn p o hk, hc⟩, fun a e => ?_⟩
      cases e
      exact ⟨o, I.kIn _ o hk, hd⟩
    · have z : ∃ o, s.heap.get? p = some o ∧ o.ExactDict := by
        rcases hk with ⟨kvs, hk⟩ | ⟨kvs, hk⟩
        · obtain ⟨_, _, _, _, o, _, _, e, ex, _⟩ := I.hok p _ hk
          exact ⟨o, e, ex⟩
        · obtain ⟨_, _, _, _, o, _, _, e, ex, _⟩ := I.hok p _ hk
          exact ⟨o, e, ex⟩
      obtain ⟨o, e, ex⟩ := z
      refine ⟨⟨o, e, ex.1⟩, fun a e2 => ?_⟩
      cases e2
      exact ⟨o, e, ex.2.1⟩
    · obtain ⟨o, _, _, _, e, ex, _⟩ := I.hok p _ hk
      refine ⟨⟨o, e, ex.1⟩, fun a e2 => ?_⟩
      cases e2
      exact ⟨o, e, ex.2.1⟩
  | _ => exact False.elim ty
noncomputable def tBM0 (K : PySem.W.Frag) (T : String) (r : V → List V → Hp → VK → Prop) (to : TE) : TE := fun σ H Q => to σ H fun x H1 => tyV K T x H1 ∧ r x [] H1 Q
noncomputable def tBM (K : PySem.W.Frag) (T : String) (r : V → List V → Hp → VK → Prop) (to : TE) (t : TA) : TE := fun σ H Q => to σ H fun x H1 => tyV K T x H1 ∧ t σ H1 fun xs H2 => r x xs H2 Q
variable {o e : Expr} {es : List Expr} {to : TE} {t : TA} {name : Str} {apos cpos : Pos} {T id : String} {r : V → List V → Hp → VK → Prop}
theorem pe_bm0 (pa : PlainAttrs T) (slot : Slot T name id) (hty : typeOf (.builtin id) = pure (.type "method_descriptor")) (hm : MtR X id r) (ho : PE X o to)
    (hbase : attributeBase o name X.env (eval o X.env) = eval o X.env := by rfl) (hline : (apos.endLine == cpos.line) = true := by rfl) : PE X (.Call (.Attribute o name apos) [] [] cpos) (tBM0 X.K T r to) := by
  intro pins s σ H Q I h
  refine wpAny_Call_method0_late hbase hline (thn (ho pins s σ H _ I h) fun v s1 ⟨x, H1, I1, r1, ty, q1⟩ => ?_)
  obtain ⟨h1, h2⟩ := tyV_is I1 r1 ty
  exact ⟨T, id, pa, slot, hty, h1, h2, Calls.callWith_builtin rfl (PySem.evalArgs_none (hm pins s1 σ H1 x [] v [] Q I1 r1 .nil q1))⟩
theorem pe_bm (pa : PlainAttrs T) (slot : Slot T name id) (hty : typeOf (.builtin id) = pure (.type "method_descriptor")) (hm : MtR X id r) (ho : PE X o to) (ha : PA X (e :: es) t)
    (hbase : attributeBase o name X.env (eval o X.env) = eval o X.env := by rfl)
    (hfew : ((backTo cpos (starEach (e :: es) X.env)).all (fun x => !x.1) && (backToKw cpos (keywordEach [] X.env)).all (fun x => x.1.isSome)
      && decide ((e :: es).length + ([] : List Keyword).length + (if ([] : List Keyword).isEmpty then 0 else 1) < 30)) = true := by rfl)
    (hline : (apos.endLine == cpos.line) = true := by rfl) (hs : starEach (e :: es) X.env = (false, eval e X.env) :: starEach es X.env := by rfl) (hplain : (backTo cpos (starEach es X.env)).any (·.1) = false := by rfl) :
    PE X (.Call (.Attribute o name apos) (e :: es) [] cpos) (tBM X.K T r to t) := by
  intro pins s σ H Q I h
  refine wpAny_Call_method_late hbase hfew hline rfl (thn (ho pins s σ H _ I h) fun v s1 ⟨x, H1, I1, r1, ty, q1⟩ => ?_)
  obtain ⟨h1, h2⟩ := tyV_is I1 r1 ty
  refine ⟨T, id, pa, slot, hty, h1, h2, ?_⟩
  have hA := ha cpos pins s1 σ H1 _ I1 q1
  rw [hs] at hA ⊢
  refine Calls.callWith_builtin (by show (false || (backTo cpos (starEach es X.env)).any (·.1)) = false; rw [hplain] <;> rfl) (Calls.evalArgs_plain ?_)
  exact thn hA fun us s2 ⟨vs, H2, I2, r2, q2⟩ => hm pins s2 σ H2 x vs v us Q I2 r1 r2 q2
end
end L2
namespace L2
open PySem PySem.Spec PyProof.Rows
noncomputable def MtM (X : Cx) (id : String) (r : V → List V → Hp → VK → Prop) : Prop :=
  ∀ (pins : List (Addr × Obj)) (s : Shared) (σ : St) (H : Hp) (x : V) (xs : List V) (v : Value) (us : List Value) (Q : VK), Inv X pins σ H s → RelV x v → Vals xs us → r x xs H Q →
    wpAny (model X.prog X.w) X.A (call (.builtin id) (v :: us)) (EP X pins σ Q) X.xe s
theorem Vals.one : ∀ {x : V} {us : List Value}, Vals [x] us → ∃ u, us = [u] ∧ RelV x u
  | _, _, .cons r .nil => ⟨_, rfl, r⟩
theorem Vals.two : ∀ {x y : V} {us : List Value}, Vals [x, y] us → ∃ u v, us = [u, v] ∧ RelV x u ∧ RelV y v
  | _, _, _, .cons r (.cons q .nil) => ⟨_, _, rfl, r, q⟩
theorem Vals.zero : ∀ {us : List Value}, Vals [] us → us = []
  | _, .nil => rfl
theorem Vals.rep {xs : List V} {us : List Value} (h : Vals xs us) : ∀ k : Nat, Vals (List.replicate k xs).flatten (List.replicate k us).flatten
  | 0 => .nil
  | k + 1 => by
    rw [List.replicate_succ, List.replicate_succ, List.flatten_cons, List.flatten_cons]
    exact Vals.append h (Vals.rep h k)
theorem foldl_rep (its : List Value) : ∀ (k : Nat) (acc : List Value),
    List.foldl (fun x1 x2 => x1 ++ x2) acc.toArray (List.replicate k its.toArray) = (acc ++ (List.replicate k its).flatten).toArray
  | 0, acc => by simp
  | k + 1, acc => by
    have e : acc.toArray ++ its.toArray = (acc ++ its).toArray := by simp
    have e2 : (acc ++ its) ++ (List.replicate k its).flatten = acc ++ (List.replicate (k + 1) its).flatten := by
      rw [List.replicate_succ, List.flatten_cons, List.append_assoc]
    rw [← e2, ← foldl_rep its k (acc ++ its), ← e, List.replicate_succ, List.foldl_cons]
section
variable {X : Cx} {pins : List (Addr × Obj)} {σ : St} {H : Hp} {s : Shared} {l b : Addr} {xs ys zs : List V}
theorem Inv.lset {its its' : List Value} {n : Nat} {f : Array Value → Array Value} {t' : Nat} (I : Inv X pins σ H s) (hH : H l = some (.lst xs))
    (e : s.heap.get? l = some { cls := .type "list", data := .seq its.toArray n }) (hf : f its.toArray = its'.toArray) (hv : Vals ys its') (hz : ys.length ≤ sizeLine) :
    Inv X pins σ (upd H l (.lst ys)) { s with heap := s.heap.update l (Obj.mapSeq f), toks := t' } := by
  have q := PySem.IsL.update e f
  rw [hf] at q
  refine I.write (x := l) (e := l) (by rw [hH]; exact trivial) (.inl rfl) (fun b' u hb hu => (Heap.get?_update_other s.heap (Obj.mapSeq f) (Ne.symm hb)).trans hu) ⟨_, q⟩ ?_
  exact ⟨hz, its', _, hv, q⟩
theorem Inv.lnew {its : List Value} {t' : Nat} (I : Inv X pins σ H s) (hv : Vals ys its) (hz : ys.length ≤ sizeLine) :
    Inv X pins σ (upd H s.heap.objs.size (.lst ys)) { s with heap := s.heap.push { cls := .type "list", data := .seq its.toArray }, toks := t' } :=
  I.laid (fun _ _ q => Heap.get?_push_of_some _ q) (Nat.le_refl _) ⟨hz, its, 0, hv, Heap.get?_push_size _ rfl⟩
theorem Inv.fresh (I : Inv X pins σ H s) : H s.heap.objs.size = none := I.hok.fresh (Nat.le_refl _)
theorem Inv.lstM (I : Inv X pins σ H s) (hH : H l = some (.lst xs)) : xs.length ≤ sizeLine ∧ ∃ (its : List Value) (n : Nat), Vals xs its ∧ xs.length = its.length ∧ s.heap.get? l = some { cls := .type "list", data := .seq its.toArray n } := by
  obtain ⟨z, its, n, r, e⟩ := I.hok l _ hH
  exact ⟨z, its, n, r, r.length, e⟩
theorem notLongL {n : Nat} (h : n ≤ sizeLine) : Builtin.List.listTooLong n = false := by
  unfold Builtin.List.listTooLong
  exact decide_eq_false (by omega)
end
section
variable {X : Cx}
noncomputable def rAppend : V → List V → Hp → VK → Prop := fun x vs H Q => ∃ l xs y, x = .ref l ∧ vs = [y] ∧ H l = some (.lst xs) ∧ xs.length < sizeLine ∧ Q .non (upd H l (.lst (xs ++ [y])))
theorem mt_append : MtM X "list.append" rAppend := by
  intro pins s σ H x vs v us Q I rx rv h
  obtain ⟨l, xs, y, rfl, rfl, hH, hz, q⟩ := h
  cases rx
  obtain ⟨u, rfl, ru⟩ := rv.one
  obtain ⟨z, its, n, r, hl, e⟩ := I.lstM hH
  refine call_meets F.slot_list_append ⟨_, e, rfl⟩ F.entry_list_append (F.args_list_append_2 _ _) (PySem.list_append l its.toArray n u (by rw [List.size_toArray]; omega)) ⟨e, ?_⟩
  refine ⟨.non, _, I.lset (its' := its ++ [u]) hH e (by simp) (r.append (.cons ru .nil)) ?_, rfl, q⟩
  rw [List.length_append, List.length_singleton]
  omega
noncomputable def rClear : V → List V → Hp → VK → Prop := fun x vs H Q => ∃ l xs, x = .ref l ∧ vs = [] ∧ H l = some (.lst xs) ∧ Q .non (upd H l (.lst []))
theorem mt_clear : MtM X "list.clear" rClear := by
  intro pins s σ H x vs v us Q I rx rv h
  obtain ⟨l, xs, rfl, rfl, hH, q⟩ := h
  cases rx
  have hus := rv.zero
  subst hus
  obtain ⟨z, its, n, r, hl, e⟩ := I.lstM hH
  refine call_meets F.slot_list_clear ⟨_, e, rfl⟩ F.entry_list_clear (F.args_list_clear_1 _) (AutoSeq1.list_clear_list_0 l its.toArray n (by rw [List.size_toArray]; omega)) ⟨e, ?_⟩
  exact ⟨.non, _, I.lset (its' := []) (ys := []) hH e rfl .nil (Nat.zero_le _), rfl, q⟩
noncomputable def rCat : R2 := fun x y H Q => ∃ l b xs zs, x = .ref l ∧ y = .ref b ∧ H l = some (.lst xs) ∧ H b = some (.lst zs) ∧ xs.length + zs.length ≤ sizeLine ∧ ∀ p, H p = none → Q (.ref p) (upd H p (.lst (xs ++ zs)))
theorem op_cat : OpR X (binaryOp .Add) rCat := by
  intro pins s σ H x y v u Q I rx ry h
  obtain ⟨l, b, xs, zs, rfl, rfl, hH, hB, hz, q⟩ := h
  cases rx
  cases ry
  obtain ⟨z, its, n, r, hl, e⟩ := I.lstM hH
  obtain ⟨z2, its2, n2, r2, hl2, e2⟩ := I.lstM hB
  refine PySem.P.add_list e e2 ?_ (by rw [List.size_toArray, List.size_toArray]; omega)
  have ea : its.toArray ++ its2.toArray = (its ++ its2).toArray := by simp
  rw [ea]
  exact ⟨.ref _, _, I.lnew (t' := s.toks) (r.append r2) (by rw [List.length_append]; omega), rfl, q _ I.fresh⟩
noncomputable def rRep : R2 := fun x y H Q => ∃ l k xs, x = .ref l ∧ y = .int k ∧ H l = some (.lst xs) ∧ -(2 ^ 63) ≤ k ∧ k < 2 ^ 63 ∧ xs.length * k.toNat ≤ sizeLine ∧
  ∀ p, H p = none → Q (.ref p) (upd H p (.lst (List.replicate k.toNat xs).flatten))
theorem len_rep {α : Type} (xs : List α) (k : Nat) : (List.replicate k xs).flatten.length = k * xs.length := by
  induction k with
  | zero => simp
  | succ k ih => rw [List.replicate_succ, List.flatten_cons, List.length_append, ih, Nat.succ_mul, Nat.add_comm]
theorem op_rep : OpR X (binaryOp .Mult) rRep := by
  intro pins s σ H x y v u Q I rx ry h
  obtain ⟨l, k, xs, rfl, rfl, hH, h1, h2, hz, q⟩ := h
  cases rx
  obtain ⟨t, rfl⟩ := ry
  obtain ⟨z, its, n, r, hl, e⟩ := I.lstM hH
  have hlen : its.toArray.size * k.toNat ≤ sizeLine := by rw [List.size_toArray, ← hl]; exact hz
  have hcap : ¬ its.toArray.size * k.toNat > (2 ^ 63 - 1) / 8 := by
    have : (sizeLine : Nat) ≤ (2 ^ 63 - 1) / 8 := by decide
    omega
  have hfit : ¬ (!Builtin.List.listFitsIndex k) = true := by
    rw [fitsIndex_both h1 h2]
    exact Bool.false_ne_true
  have hlong : ¬ Builtin.List.listTooLong (its.toArray.size * k.toNat) = true := by
    rw [notLongL hlen]
    exact Bool.false_ne_true
  have hnew : List.foldl (fun x1 x2 => x1 ++ x2) #[] (List.replicate (if its.toArray.isEmpty = true then 0 else k.toNat) its.toArray) = (List.replicate k.toNat its).flatten.toArray := by
    have f0 : ∀ m : Nat, List.foldl (fun x1 x2 => x1 ++ x2) #[] (List.replicate m its.toArray) = (List.replicate m its).flatten.toArray := fun m => by
      have := foldl_rep its m []
      rw [List.nil_append] at this
      exact this
    rw [f0]
    cases its with
    | nil => simp
    | cons a r' => rw [if_neg (by simp)]
  refine wpAny_binaryOp_repeat_ref (T := "list") (U := "int") (by decide) ⟨_, e, rfl⟩ (fun s' => typeIs_int s' k t) noFill_list_mul F.fills_int_mul F.slot_int_rmul repeat_list F.slot_int_index.lookup
    (call_meets F.slot_int_rmul (typeIs_int s k t) F.entry_int_rmul (F.args_int_rmul_2 _ _) (int___rmul___int_list k t l its.toArray n)
      ⟨e, rfl, ⟨_, e, rfl⟩, call_meets F.slot_list_mul ⟨_, e, rfl⟩ F.entry_list_mul (F.args_list_mul_2 _ _) (AutoListH.list___mul___list_int_3 l its.toArray n k t hfit hcap hlong) ⟨e, ?_⟩⟩)
  rw [hnew]
  exact ⟨.ref _, _, I.lnew (t' := s.toks) (r.rep k.toNat) (by rw [len_rep, Nat.mul_comm]; exact hz), rfl, q _ I.fresh⟩
end
section
variable {prog : Program} {w : World} {A : Around} {E : Value → Shared → Prop} {s : Shared}
set_option maxRecDepth 100000 in
end
section
variable {X : Cx}
end
end L2
namespace Att
open PySem PySem.W PySem.Calls PyProof.Rows
theorem ints_of_wellAll {P : Params} {h : Heap} : ∀ (ns : List Int) (vs : List Value), WellAll P h vs (ns.map WData.int) → IntsAre vs ns := by
  intro ns
  induction ns with
  | nil =>
    intro vs w
    rw [List.map_nil] at w
    cases w
    exact .nil
  | cons n ns ih =>
    intro vs w
    rw [List.map_cons] at w
    cases w with
    | cons a b =>
      cases a
      exact .cons _ _ (ih _ b)
theorem script_of {l : OpenLaw} {n : Nat} (hn : l.most = some n) {P : Params} {h : Heap} {args : List WData} {vals : List Value}
    (hpre : l.row.toRowW.claim.pre args = true) (hwl : WellAll P h vals args) :
    ∃ a vs ns, vals = [Value.ref a] ∧ args = [WData.list (ns.map WData.int)] ∧ h.get? a = some { cls := .type "list", data := .seq vs.toArray } ∧ IntsAre vs ns ∧ ns.length ≤ n := by
  have hsh : WShape.hasAll [] args [.list .int] = true := (pre_splitW hpre).1
  have hc : l.pre.holds [] { args := args } = true := (pre_splitW hpre).2
  obtain ⟨d, r, rfl, h1, h2⟩ := hasAllW_cons hsh
  obtain rfl := hasAllW_nil h2
  obtain ⟨xs, rfl, h3⟩ := hasW_list h1
  obtain ⟨ns, rfl⟩ := items_int h3
  have hlen : ns.length ≤ n := by
    unfold OpenLaw.pre at hc
    have h4 : (WTm.not (.lt (.lit (.int (n : Int))) (.len (.arg 0)))).holds [] { args := [.list (ns.map .int)] } = true := by
      have h4 := (holds_andW hc).1
      rw [hn] at h4
      exact h4
    have h5 := condW_of h4 (w_not (w_lt w_lit (w_len_list (w_arg rfl))))
    rw [List.length_map] at h5
    refine Nat.le_of_not_lt fun q => ?_
    have q' : (n : Int) < ((ns.length : Nat) : Int) := by omega
    first
      | (rw [decide_eq_true q'] at h5; exact absurd h5 (by decide))
      | (simp at h5; omega)
  cases hwl with
  | cons w1 w2 =>
    cases w2
    cases w1 with
    | list ho hall => exact ⟨_, _, ns, rfl, rfl, ho, ints_of_wellAll ns _ hall, hlen⟩
theorem post_true (l : OpenLaw) (args : List WData) : l.row.toRowW.claim.post args (.bool true) args = true :=
  postW_of (r := l.row.toRowW) (X := (true == true))
    (show WShape.has [] (.bool true) .bool = true by first | rfl | decide | simp [WShape.has, WShape.arms, WShape.armsAll])
    (show (WTm.eq .res (.lit (.bool true))).value [] { args := args, res := some (.bool true), after := args } = some (.bool (true == true)) from w_eq_bool (w_res rfl) w_lit) rfl
theorem attach_call {l : OpenLaw} {n : Nat} {q : Program} {loose : List Str} {XP : (Str → Option Value) → Heap → Prop} {YP : World → Heap → Prop} {d : DefRec}
    (hn : l.most = some n) (hdf : d.params.defaults = [])
    (call : ∀ (w : World) (s₀ s₁ : Shared) (mg mb : Str → Option Value) (fa : Addr) (o : Obj) (pm cd doc : Value) (a : Addr) (vs : List Value) (ns : List Int),
      Ground q loose [] XP w s₀ mg mb s₁.heap → YP w s₁.heap →
      s₁.heap.get? fa = some o → o.data = .func (docDef d.name d.params d.body d.scope pm cd doc) → s₁.heap.CodeRec cd d.name → mg d.name = some (.ref fa) →
      s₁.heap.get? a = some { cls := .type "list", data := .seq vs.toArray } → IntsAre vs ns → ns.length ≤ n → s₁.gens = #[] →
      codeAny (model l.prog w) callerA (.call (.ref fa) ⟨[.ref a], []⟩) (fun r s' => r = .ok (.ret (.bool true)) ∧ OldK s₁.heap s'.heap ∧ s'.os = s₁.os ∧ AllBare s'.gens) s₁) :
    WalkO q loose XP YP l.row.toRowW d [] (fun f vs => PySem.call f vs) := by
  intro w s₀ s₁ mg mb G Y fa o pm cd doc dV kV ho hd hcd hD hmg hg args vals as hpre hlay hrd hwl hlo
  obtain rfl : dV = .none := Dflts.none hD hdf
  obtain rfl : kV = .none := Dflts.noKw hD
  obtain ⟨a, vs, ns, rfl, rfl, hobj, hints, hlen⟩ := script_of hn hpre hwl
  refine enter_call (codeAny_mono (call w s₀ s₁ mg mb fa o pm cd doc a vs ns G Y ho (fd_plain hd) hcd hmg hobj hints hlen hg) fun r s' hq => ?_)
  obtain ⟨rfl, h2, h3, h4⟩ := hq
  exact ⟨.inl ⟨.bool true, .bool true, [], rfl, fun _ => rfl, .bool true, post_true l _, fun _ => ⟨List.Pairwise.nil, fun _ hm => (nomatch hm)⟩⟩, h2, h3, h4⟩
section
variable {prog : Program} {w : World} {A : Around} {E : Value → Shared → Prop} {s : Shared} {K : Frag}
noncomputable def ledger (h : Heap) (L d : Addr) : List (Addr × Obj) := (List.range h.objs.size).filterMap fun a => if a = L ∨ a = d then none else (h.get? a).map fun o => (a, o)
end
end Att
namespace L2
open PySem PySem.Spec PyProof.Rows
theorem vals_ints : ∀ {vs : List Value} {ns : List Int}, IntsAre vs ns → Vals (ns.map V.int) vs
  | _, _, .nil => .nil
  | _, _, .cons n t h => .cons ⟨t, rfl⟩ (vals_ints h)
noncomputable def Only (H : Hp) : Prop := ∀ b, H b = none ∨ ∃ o xs, H b = some (.frz o (.lst xs))
theorem law_call {P : Program} {w : World} {K : PySem.W.Frag} {mg mb : Str → Option Value} {CX : CXT} {k : Nat} {fa a : Addr} {fd : FuncData} {x : Str} {sp : Sp} {s₁ : Shared} {vs : List Value} {ns : List Int}
    (KX : K.In s₁.heap) (hns : s₁.heap.Ns mainGlobals mg) (hb : s₁.heap.Ns builtinsNs mb) (hbb : ∀ x : Str, x ≠ "__name__" → mb x = bootBuiltins x) (hlim : s₁.heap.NoLimit) (hg : s₁.gens = #[])
    (ha : s₁.heap.get? a = some { cls := .type "list", data := .seq vs.toArray }) (hi : IntsAre vs ns) (hl : ns.length ≤ sizeLine) (hr : Room k callerA)
    (F : ∀ base : Heap, K.In base → base.Ns mainGlobals mg → FnOk P w K mg base CX k fa fd [x] sp) (hbind : ∀ (s : Shared) (u : Value), BindsTo s fd ⟨[u], []⟩ [(x, u)])
    (hsp : ∀ H : Hp, Only H → SqL K H a (ns.map V.int) → sp [.ref a] H (fun v _ => v = .bl true) fun _ _ _ => False)
    (hCX : ∀ H e s', CX [] H s₁ (fun _ _ _ => False) e s' → False) :
    codeAny (model P w) callerA (.call (.ref fa) ⟨[.ref a], []⟩) (fun r s' => r = .ok (.ret (.bool true)) ∧ OldK s₁.heap s'.heap ∧ s'.os = s₁.os ∧ AllBare s'.gens) s₁ := by
  have rv := vals_ints hi
  have lenV := hi.length
  have core : ∀ H : Hp, Only H → SqL K H a (ns.map V.int) → HOk P w H s₁.heap → (∀ b, H b ≠ none → b = a) → (H a ≠ none → K.lookup a = none) →
      codeAny (model P w) callerA (.call (.ref fa) ⟨[.ref a], []⟩) (fun r s' => r = .ok (.ret (.bool true)) ∧ OldK s₁.heap s'.heap ∧ s'.os = s₁.os ∧ AllBare s'.gens) s₁ := by
    intro H hO hS hok hA hK
    have base_of : ∀ {b : Addr} {o : Obj}, s₁.heap.get? b = some o → H b = none → (hidT s₁.heap H).get? b = some o := fun e n => hidT_get e n
    have noA : ∀ {b : Addr} {o : Obj} {es : Array DictEntry} {ep : Nat}, s₁.heap.get? b = some o → o.data = .dict es ep → H b = none := fun {b o es ep} e d => by
      cases q : H b with
      | none => rfl
      | some u =>
        have e' : b = a := hA b (by rw [q]; simp)
        subst e'
        rw [ha] at e; cases e
        have d' : Data.seq vs.toArray _ = Data.dict es ep := d
        cases d'
    have nsK : ∀ {b : Addr} {m : Str → Option Value}, s₁.heap.Ns b m → (hidT s₁.heap H).Ns b m := fun {b m} ⟨o, es, ep, e, d, r⟩ => ⟨o, es, ep, base_of e (noA e d), d, r⟩
    have hKb : K.In (hidT s₁.heap H) := fun b o e => base_of (KX b o e) (by
      cases q : H b with
      | none => rfl
      | some u =>
        have e' : b = a := hA b (by rw [q]; simp)
        subst e'
        rw [hK (by rw [q]; simp)] at e; cases e)
    have hM : Mod K mg (hidT s₁.heap H) := ⟨hKb, nsK hns, ⟨mb, nsK hb, hbb⟩, let ⟨mc, h1, h2⟩ := hlim; ⟨mc, nsK h1, h2⟩⟩
    have e0 : Env0 P w K mg (hidT s₁.heap H) callerA [] s₁ H := ⟨rfl, hM, fun b o e => of_hidT e, Nat.le_of_eq (hidT_size _ _), trivial, fun b hb => absurd (show b ∈ ([] : List Addr) from hb) (by simp), hok, .of_eq hg⟩
    refine codeAny_mono ((F _ hKb (nsK hns)).run callerA [] s₁ H ⟨[.ref a], []⟩ [.ref a] [.ref a] _ _ hr e0 (hbind s₁ (.ref a)) (.cons rfl .nil) (hsp H hO hS)) fun r s' h => ?_
    cases r with
    | error e => exact (hCX H e s' h).elim
    | ok fl =>
      cases fl with
      | next => exact False.elim h
      | brk => exact False.elim h
      | cont => exact False.elim h
      | ret u =>
        obtain ⟨v, H', os, bare, un, hok', r', q⟩ := h
        have q' : v = .bl true := q
        subst q'
        obtain rfl : u = Value.bool true := r'
        refine ⟨rfl, OldK.of_keep fun b o e => ?_, os, bare⟩
        cases q : H b with
        | none => exact un.keep b o e q (by intro z; exact absurd (show b ∈ ([] : List Addr) from z) (by simp)) (by simp)
        | some u =>
          rcases hO b with z | ⟨ob, xs, z⟩
          · rw [q] at z; cases z
          · have z2 := un.frzs b ob _ z
            obtain ⟨e1, _⟩ := hok b _ z
            obtain ⟨e2, _⟩ := hok' b _ z2
            rw [e] at e1; cases e1
            exact e2
  cases hk : K.lookup a with
  | some o =>
    have e := KX a o hk
    rw [ha] at e
    cases e
    refine core (fun _ => none) (fun _ => .inl rfl) (.inr ⟨_, vs.toArray, _, hk, rfl, rfl, rfl, by rw [List.size_toArray, lenV]; exact hl, by simpa using rv⟩) (fun b u z => by have z' : (none : Option HO) = some u := z; cases z') (fun b z => absurd rfl z) fun z => absurd rfl z
  | none =>
    refine core (fun b => if b = a then some (.frz { cls := .type "list", data := .seq vs.toArray } (.lst (ns.map V.int))) else none) (fun b => ?_) (.inl (.inr ⟨{ cls := .type "list", data := .seq vs.toArray }, if_pos rfl⟩)) (fun b u z => ?_) (fun b z => ?_) fun _ => hk
    · by_cases hb : b = a
      · exact .inr ⟨_, _, if_pos hb⟩
      · exact .inl (if_neg hb)
    · by_cases hb : b = a
      · have z' := (if_pos hb).symm.trans z
        cases z'
        subst hb
        exact ⟨ha, by rw [List.length_map]; exact hl, vs, _, rv, ha⟩
      · have z' := (if_neg hb).symm.trans z
        cases z'
    · by_cases hb : b = a
      · exact hb
      · exact absurd (if_neg hb) z
end L2
namespace L2
open PySem PySem.Spec PyProof.Rows
noncomputable abbrev KOf {K : PySem.W.Frag} {h : Heap} (_ : K.In h) : PySem.W.Frag := K
theorem walk_of {l : PySem.W.OpenLaw} {n k : Nat} {q : Program} {loose : List Str} {XP : (Str → Option Value) → Heap → Prop} {YP : World → Heap → Prop} {d : DefRec} {K : Params → PySem.W.Frag} {CX : World → CXT} {sp : World → Sp} {x : Str}
    (hn : l.most = some n) (hn2 : n ≤ sizeLine) (hdf : d.params.defaults = []) (hr : Room k callerA)
    (hY : ∀ (w : World) (h : Heap), YP w h → (K w.params).In h)
    (F : ∀ (w : World) (mg : Str → Option Value) (fa : Addr) (h : Heap), (K w.params).In h → h.Ns mainGlobals mg → mg d.name = some (.ref fa) →
      ∃ fd : FuncData, (∀ (s : Shared) (u : Value), BindsTo s fd ⟨[u], []⟩ [(x, u)]) ∧
        ∀ base : Heap, (K w.params).In base → base.Ns mainGlobals mg → FnOk l.prog w (K w.params) mg base (CX w) k fa fd [x] (sp w))
    (hsp : ∀ (w : World) (H : Hp) (a : Addr) (ns : List Int), ns.length ≤ n → Only H → SqL (K w.params) H a (ns.map V.int) → sp w [.ref a] H (fun v _ => v = .bl true) fun _ _ _ => False)
    (hCX : ∀ (w : World) (H : Hp) (s : Shared) (e : Value) (s' : Shared), CX w [] H s (fun _ _ _ => False) e s' → False) :
    PySem.W.WalkO q loose XP YP l.row.toRowW d [] (fun f vs => PySem.call f vs) := by
  refine Att.attach_call hn hdf fun w s₀ s₁ mg mb fa o pm cd doc a vs ns G Y ho hd hcd hmg hobj hints hlen hg => ?_
  have KX := hY w _ Y
  obtain ⟨fd, hb, hF⟩ := F w mg fa _ KX G.T.g hmg
  exact law_call KX G.T.g G.T.b G.T.builtins G.T.nolimit hg hobj hints (Nat.le_trans hlen hn2) hr hF hb (fun H hO hS => hsp w H a ns hlen hO hS) fun H e s' => hCX w H s₁ e s'
end L2
namespace L2
open PySem PySem.Spec PyProof.Rows
noncomputable def defArgs (s : Stmt) : Arguments := match s with
  | .FunctionDef _ a _ _ _ _ _ _ _ _ => a
  | _ => { posonlyargs := [], args := [], vararg := none, kwonlyargs := [], kw_defaults := [], kwarg := none, defaults := [] }
noncomputable def defBody (s : Stmt) : List Stmt := match s with
  | .FunctionDef _ _ b _ _ _ _ _ _ _ => b
  | _ => []
noncomputable def defScope (s : Stmt) : Scope := match s with
  | .FunctionDef _ _ _ _ _ _ sc _ _ _ => sc
  | _ => { kind := .function, names := [], isGenerator := false, isCoroutine := false }
noncomputable abbrev CX0 : CXT := fun _ _ _ _ _ _ => False
noncomputable abbrev E0 : XK := fun _ _ _ => False
structure Fun (K : PySem.W.Frag) (x qual : Str) (st : Stmt) (f : Addr) (fd : FuncData) : Prop where
  ex : ∃ (oc : Value) (od : Option Addr) (kV doc pm : Value) (an : Option Addr) (cdv ct : Value) (osl : Array (Option Value)),
    fd = PySem.W.fnOf x qual (defArgs st) (defBody st) (defScope st) .none kV doc pm an cdv ct ∧ K.lookup f = some ⟨oc, od, .func fd, osl⟩ ∧ PySem.W.codeIn K cdv qual = true
  kp : PySem.W.keepIn K (.ref f) = true
section
variable {P : Program} {w : World} {K : PySem.W.Frag} {mg : Str → Option Value} {base : Heap}
theorem Fun.ok {x qual : Str} {st : Stmt} {f : Addr} {fd : FuncData} {N ps : List Str} {k : Nat} {sp : Sp} (F : Fun K x qual st f fd) (S : FnScope N ps (defScope st)) (len : ∀ vs H Q E, sp vs H Q E → vs.length = ps.length)
    (hbody : ∀ (cdv : Value) (A : Around) (outer : List Env) (s : Shared) (H : Hp) (vs : List V) (Q : VK) (E : XK), Room k (A.deeper (envOfC qual (defScope st) s.heap.objs.size f cdv)) → sp vs H Q E →
      ∃ t, PSs (cxOf CX0 P w K mg base N qual (defScope st) f cdv A outer s H E).nox (defBody st) t ∧ t { nx := fun _ H' => Q .non H', rt := Q } (start N vs) H) : FnOk P w K mg base CX0 (k + 1) f fd ps sp := by
  obtain ⟨oc, od, kV, doc, pm, an, cdv, ct, osl, rfl, lk, hcd⟩ := F.ex
  refine fn_of lk hcd S len fun A outer s H vs Q E hr hsp => ?_
  obtain ⟨t, h, q⟩ := hbody cdv A outer s H vs Q E hr hsp
  exact ⟨t, h.nox, q⟩
theorem Fun.binds {x qual : Str} {st : Stmt} {f : Addr} {fd : FuncData} {ps : List Str} (F : Fun K x qual st f fd)
    (h : ∀ (kV doc pm : Value) (an : Option Addr) (cdv ct : Value) (us : List Value), us.length = ps.length → bindArgs (PySem.W.fnOf x qual (defArgs st) (defBody st) (defScope st) .none kV doc pm an cdv ct) ⟨us, []⟩ = pure (ps.zip us)) : Binds K fd ps [] := by
  obtain ⟨oc, od, kV, doc, pm, an, cdv, ct, osl, rfl, lk, hcd⟩ := F.ex
  exact .all (h kV doc pm an cdv ct)
theorem fun_mk {x qual : Str} {st : Stmt} {f : Addr} {oc : Value} {od an : Option Addr} {osl : Array (Option Value)} {kV doc pm cdv ct : Value} (l : K.lookup f = some ⟨oc, od, .func (PySem.W.fnOf x qual (defArgs st) (defBody st) (defScope st) .none kV doc pm an cdv ct), osl⟩)
    (c : PySem.W.codeIn K cdv qual = true) (k : PySem.W.keepIn K (.ref f) = true) : Fun K x qual st f (PySem.W.fnOf x qual (defArgs st) (defBody st) (defScope st) .none kV doc pm an cdv ct) := ⟨⟨oc, od, kV, doc, pm, an, cdv, ct, osl, rfl, l, c⟩, k⟩
end
theorem small1000 {n : Nat} (h : n ≤ 1000) : n < sizeLine := Nat.lt_of_le_of_lt h (by decide)
section
variable {X : Cx}
theorem pv (i : Nat) {x : Str} {pos : Pos} (hN : X.N[i]? = some x := by rfl) (hv : Vis X.env.scope x := by first | exact Or.inl rfl | exact Or.inr (Or.inl rfl) | exact Or.inr (Or.inr rfl)) (hd : (x == ("__debug__" : Str)) = false := by decide)
    (hcd : (x == ("__classdict__" : Str)) = false := by decide) : PE X (.Name x pos) (tVar i) := pe_var hN hv hd hcd
end
theorem ite2 {c A B : Prop} [Decidable c] (h1 : c → A) (h2 : ¬ c → B) : if c then A else B := by
  by_cases h : c
  · rw [if_pos h]
    exact h1 h
  · rw [if_neg h]
    exact h2 h
noncomputable def Same (H H' : Hp) : Prop := ∀ b o, H b = some o → H' b = some o
theorem Same.refl (H : Hp) : Same H H := fun _ _ h => h
theorem Same.trans {H H1 H2 : Hp} (a : Same H H1) (b : Same H1 H2) : Same H H2 := fun c o h => b c o (a c o h)
theorem Same.free {H H' : Hp} (e : Same H H') {l : Addr} (h : H' l = Option.none) : H l = Option.none := by
  cases q : H l with
  | none => rfl
  | some o =>
    rw [e l o q] at h
    cases h
theorem Same.seq {K : PySem.W.Frag} {H H' : Hp} {a : Addr} {xs : List V} (e : Same H H') (h : SqL K H a xs) : SqL K H' a xs := by
  rcases h with (h | ⟨o, h⟩) | h
  · exact .inl (.inl (e _ _ h))
  · exact .inl (.inr ⟨o, e _ _ h⟩)
  · exact .inr h
end L2
set_option maxHeartbeats 4000000
namespace Lx
open PySem PySem.Spec PyProof.Rows L2
noncomputable def ExcAt (h₀ h : Heap) (H : Hp) (x : Addr) (C : Value) : Prop :=
  ∃ oe vs, h.get? x = some oe ∧ oe.cls = C ∧ oe.data = .fields vs ∧ H x = none ∧ h₀.get? x = none ∧
    (vs[1]? = some Value.none ∨ ∃ T oT ts, vs[1]? = some (Value.ref T) ∧ T ≠ x ∧ h.get? T = some oT ∧ oT.data = .fields ts ∧ ts[3]? = some Value.none ∧ H T = none ∧ h₀.get? T = none)
theorem ExcAt.older {h₀ h₁ h : Heap} {H : Hp} {x : Addr} {C : Value} (e : ExcAt h₁ h H x C) (k : ∀ b, h₁.get? b = none → h₀.get? b = none) : ExcAt h₀ h H x C := by
  obtain ⟨oe, vs, h1, h2, h3, h4, h5, h6⟩ := e
  refine ⟨oe, vs, h1, h2, h3, h4, k _ h5, ?_⟩
  rcases h6 with h6 | ⟨T, oT, ts, g1, g2, g3, g4, g5, g6, g7⟩
  · exact .inl h6
  · exact .inr ⟨T, oT, ts, g1, g2, g3, g4, g5, g6, k _ g7⟩
theorem obj_get {P : Program} {w : World} {H : Hp} {h : Heap} {a : Addr} {o : HO} (x : ObjOk P w H h a o) : ∃ u, h.get? a = some u := by
  cases o with
  | lst xs => obtain ⟨_, _, _, _, e⟩ := x; exact ⟨_, e⟩
  | tup xs => obtain ⟨_, _, _, p⟩ := x; obtain ⟨o, h1, _⟩ := p; exact ⟨o, h1⟩
  | dK kvs => obtain ⟨_, _, _, _, o, _, _, e, _⟩ := x; exact ⟨_, e⟩
  | dT kvs => obtain ⟨_, _, _, _, o, _, _, e, _⟩ := x; exact ⟨_, e⟩
  | set S n => obtain ⟨o, _, _, _, e, _⟩ := x; exact ⟨_, e⟩
  | ins C dx fs => obtain ⟨_, _, _, e, _⟩ := x; exact ⟨_, e⟩
  | own y => exact x
  | xd fs => obtain ⟨_, ⟨_, _, _, e, _⟩, _⟩ := x; exact ⟨_, e⟩
  | rng lo hi => obtain ⟨_, _, _, e⟩ := x; exact ⟨_, e⟩
  | frz ob u => obtain ⟨e, _⟩ := x; exact ⟨_, e⟩
  | tbl ps => exact ⟨_, (show h.get? a = some _ from x)⟩
  | met f y => exact ⟨_, (show h.get? a = some _ from x)⟩
  | ext φ => obtain ⟨_, e, _⟩ := x; exact e
theorem mem_frs {env : Env} {l : List Env} {a : Addr} (h : env ∈ l) (hf : env.frame = some a) : a ∈ frs l := List.mem_filterMap.mpr ⟨env, h, hf⟩
theorem noted_any {M : Model} {A : Around} {E : Value → Shared → Prop} {s : Shared} {base h₀ : Heap} {env : Env} {outer : List Env} {L x : Addr} {C : Value} {H : Hp} {Q : Unit → Shared → Prop}
    (hfr : A.frames = some (env :: outer)) (hl : s.heap.FunFrames base (env :: outer)) (hf : env.frame = some L) (hx : ExcAt h₀ s.heap H x C)
    (h0 : ∀ b o, h₀.get? b = some o → ∃ u, s.heap.get? b = some u) (hH : ∀ b o, H b = some o → ∃ u, s.heap.get? b = some u)
    (h : ∀ h', (∀ b o, s.heap.get? b = some o → (h₀.get? b ≠ none ∨ H b ≠ none) → b ∉ frs (env :: outer) → h'.get? b = some o) →
      (∀ b o, s.heap.get? b = some o → b ∈ frs (env :: outer) → ∃ sl, h'.get? b = some { o with slots := sl }) →
      ExcAt h₀ h' H x C → Q () { s with heap := h' }) :
    wpAny M A (noteFrame (.ref x) env) (fun _ s2 => wpAny M A (setFlight (.ref x) none) Q E s2) E s := by
  obtain ⟨oe, vs, he, hc, hd, hHx, h0x, htr⟩ := hx
  have go : ∀ (tr : List Addr) (hxt : x ∈ tr) (htr : ∀ b ∈ tr, H b = none ∧ h₀.get? b = none) (h' : Heap), Heap.Left (PySem.W.hideAll s.heap (tr ++ frs (env :: outer))) (env :: outer) x C s.heap h' → Q () { s with heap := h' } := by
    intro tr hxt htr h' hL
    obtain ⟨k1, k2, k3, k4⟩ := hL
    have kept : ∀ b o, s.heap.get? b = some o → (h₀.get? b ≠ none ∨ H b ≠ none) → b ∉ frs (env :: outer) → h'.get? b = some o := fun b o e hb hn => by
      refine k1 b o (PySem.W.hideAll_get _ e fun hm => ?_)
      rcases List.mem_append.mp hm with z | z
      · obtain ⟨z1, z2⟩ := htr b z
        rcases hb with q | q
        · exact q z2
        · exact q z1
      · exact hn z
    refine h h' kept (fun b o e hb => ?_) ?_
    · obtain ⟨_, o', e', nf⟩ := hl.mem hb
      rw [e] at e'; cases e'
      exact k4 b o e nf
    · obtain ⟨oe', vs', T, oT, ts, he', hc', hd', h1', hnT, hTe, hT, hdT, h3⟩ := k3
      have hTn : H T = none ∧ h₀.get? T = none := by
        by_cases hm : T ∈ tr ++ frs (env :: outer)
        · rcases List.mem_append.mp hm with z | z
          · exact htr T z
          · obtain ⟨_, o', e', nf⟩ := k2.mem z
            rw [hT] at e'; cases e'
            exact absurd hdT (nf ts)
        · have no : s.heap.get? T = none := by
            cases q : s.heap.get? T with
            | none => rfl
            | some o =>
              rw [PySem.W.hideAll_get _ q hm] at hnT; cases hnT
          refine ⟨?_, ?_⟩
          · cases q : H T with
            | none => rfl
            | some o =>
              obtain ⟨u, hu⟩ := hH T o q
              rw [no] at hu; cases hu
          · cases q : h₀.get? T with
            | none => rfl
            | some o =>
              obtain ⟨u, hu⟩ := h0 T o q
              rw [no] at hu; cases hu
      exact ⟨oe', vs', he', hc', hd', hHx, h0x, .inr ⟨T, oT, ts, h1', hTe, hT, hdT, h3, hTn.1, hTn.2⟩⟩
  have ff : ∀ tr : List Addr, s.heap.FunFrames (PySem.W.hideAll s.heap (tr ++ frs (env :: outer))) (env :: outer) := fun tr => PySem.W.funFrames_hide hl fun env' h1 a h2 => List.mem_append_right _ (mem_frs h1 h2)
  have stays : ∀ tr : List Addr, (PySem.W.hideAll s.heap (tr ++ frs (env :: outer))).StaysIn s.heap := fun tr b o q => PySem.W.of_hideAll _ q
  have hid : ∀ (tr : List Addr) (b : Addr), b ∈ tr → (PySem.W.hideAll s.heap (tr ++ frs (env :: outer))).get? b = none := fun tr b hb => PySem.W.hideAll_none _ (List.mem_append_left _ hb)
  rcases htr with h1 | ⟨Tr, oTr, tv, h1, hTx, hTr, hdTr, h3, hHT, h0T⟩
  · unfold noteFrame
    simp only [hf]
    refine wpAny_bind (wpAny_field (s := s) he hd h1 ?_)
    rw [if_neg (by decide : ¬ ((Value.none != Value.none) = true))]
    refine wpAny_newEntry hfr (ff [x]) hf he (stays [x]) (hid [x] x (by simp)) hd (Array.getElem?_eq_some_iff.mp h1).1 fun h' hL => go [x] (by simp) (fun b hb => ?_) h' (by rw [← hc]; exact hL)
    have e : b = x := by simpa using hb
    subst e
    exact ⟨hHx, h0x⟩
  · unfold noteFrame
    simp only [hf]
    refine wpAny_bind (wpAny_field (s := s) he hd h1 ?_)
    rw [if_pos (by simp : (Value.ref Tr != Value.none) = true)]
    refine wpAny_bind (wpAny_field (s := s) hTr hdTr h3 ?_)
    rw [if_neg (by simp [rawInt] : ¬ ((Value.none == rawInt L) = true))]
    refine wpAny_bind (wpAny_setField (s := s) hTr hdTr (Array.getElem?_eq_some_iff.mp h3).1 ?_)
    have oth : ∀ b, b ≠ Tr → (s.heap.update Tr (Obj.mapFields (·.setIfInBounds 3 Value.none))).get? b = s.heap.get? b := fun b nb => Heap.get?_update_other _ _ (Ne.symm nb)
    have nT : ∀ b u, s.heap.get? b = some u → (∀ vs, u.data ≠ .fields vs) → b ≠ Tr := fun b u q nf z => by
      rw [z, hTr] at q
      cases q
      exact nf tv hdTr
    refine wpAny_newEntry hfr ((ff [x, Tr]).of_keeps fun b u q nf => ⟨u, (oth b (nT b u q nf)).trans q, rfl⟩) hf ((oth x (Ne.symm hTx)).trans he) (fun b u q => (oth b fun z => ?_).trans (stays [x, Tr] b u q)) (hid [x, Tr] x (by simp)) hd (Array.getElem?_eq_some_iff.mp h1).1
      fun h' hL => go [x, Tr] (by simp) (fun b hb => ?_) h' ⟨hL.1, hL.2.1, by rw [← hc]; exact hL.2.2.1, fun b u q nf => hL.2.2.2 b u ((oth b (nT b u q nf)).trans q) nf⟩
    · rw [z, hid [x, Tr] Tr (by simp)] at q
      cases q
    · have e : b = x ∨ b = Tr := by simpa using hb
      rcases e with e | e
      · subst e; exact ⟨hHx, h0x⟩
      · subst e; exact ⟨hHT, h0T⟩
theorem leaving_any {M : Model} {A : Around} {E : Value → Shared → Prop} {s : Shared} {base h₀ : Heap} {env : Env} {outer : List Env} {L x : Addr} {C : Value} {H : Hp} {Q : Unit → Shared → Prop}
    (hfr : A.frames = some (env :: outer)) (hl : s.heap.FunFrames base (env :: outer)) (hf : env.frame = some L) (hx : ExcAt h₀ s.heap H x C)
    (h0 : ∀ b o, h₀.get? b = some o → ∃ u, s.heap.get? b = some u) (hH : ∀ b o, H b = some o → ∃ u, s.heap.get? b = some u)
    (h : ∀ h', (∀ b o, s.heap.get? b = some o → (h₀.get? b ≠ none ∨ H b ≠ none) → b ∉ frs (env :: outer) → h'.get? b = some o) →
      (∀ b o, s.heap.get? b = some o → b ∈ frs (env :: outer) → ∃ sl, h'.get? b = some { o with slots := sl }) →
      ExcAt h₀ h' H x C → Q () { s with heap := h' }) :
    wpAny M A (leaving env (.ref x)) Q E s := wpAny_bind (noted_any hfr hl hf hx h0 hH h)
noncomputable def CXE (P : Program) (w : World) : CXT := fun outer H s E e s' =>
  ∃ (x : Addr) (C : Value) (H' : Hp), e = .ref x ∧ s'.os = s.os ∧ AllBare s'.gens ∧ Un (frs outer) [] H H' s.heap s'.heap ∧ HOk P w H' s'.heap ∧ ExcAt s.heap s'.heap H' x C ∧ E C none H'
theorem passE0 {P : Program} {w : World} {X : Cx} : Passes (CXE P w) X E0 := fun _ _ _ _ _ _ _ ⟨_, _, _, _, _, _, _, _, _, h⟩ => h.elim
section
variable {P : Program} {w : World} {K : PySem.W.Frag} {mg : Str → Option Value} {base : Heap}
theorem left_ok {X : Cx} {pins : List (Addr × Obj)} {σ : L2.St} {H' : Hp} {s' : Shared} {h' h₁ : Heap} (I' : Inv X pins σ H' s')
    (k : ∀ b o, s'.heap.get? b = some o → (h₁.get? b ≠ none ∨ H' b ≠ none) → b ∉ frs X.stack → h'.get? b = some o) : HOk X.prog X.w H' h' := fun a o e =>
  (I'.hok a o e).stay (fun b u hb q => by
    have t : H' b ≠ none := by
      rcases hb with z | z
      · rw [z, e]; simp
      · rw [z]; simp
    exact k b u q (.inr t) fun hm => t (I'.stkFree b hm)) (fun _ q => q) fun _ _ q => q
theorem pass_own {N : List Str} {qual : Str} {scope : Scope} {f : Addr} {cdv : Value} {A : Around} {outer : List Env} {s₀ : Shared} {H₀ : Hp} {E : XK} :
    Passes (CXE P w) (cxOf (CXE P w) P w K mg base N qual scope f cdv A outer s₀ H₀ E) E := by
  intro pins σ H s e s' I hc
  obtain ⟨x, C, H', rfl, ho, hg, u, hok, hx, hE⟩ := hc
  have I' : Inv (cxOf (CXE P w) P w K mg base N qual scope f cdv A outer s₀ H₀ E) pins σ H' s' := I.call' ho u hok hg (fun b z => absurd z (by simp))
  have there : ∀ b o, s₀.heap.get? b = some o → ∃ o', s.heap.get? b = some o' := fun b o e => I.base.there b o e (by intro z; exact absurd (show b ∈ ([] : List Addr) from z) (by simp))
  show wpAny (model P w) _ (leaving _ (.ref x)) _ _ s'
  refine leaving_any (h₀ := s.heap) (H := H') (C := C) (base := base) I'.ok.frames I'.stack rfl hx (fun b o e => u.there b o e (by simp)) (fun b o e => obj_get (hok b o e)) fun h' kp sl hx' => ?_
  have noex : ∀ b : Addr, b ∉ (cxOf (CXE P w) P w K mg base N qual scope f cdv A outer s₀ H₀ E).ex := fun b z => absurd (show b ∈ ([] : List Addr) from z) (by simp)
  have neL : ∀ b o, s₀.heap.get? b = some o → b ∉ frs outer → b ∉ frs (envOfC qual scope s₀.heap.objs.size f cdv :: outer) := fun b o e hb hm => by
    rcases List.mem_cons.mp (I'.stkSub b hm) with z | z
    · exact absurd (z ▸ Heap.lt_size e) (Nat.not_lt.mpr I'.ok.above)
    · exact hb z
  refine ⟨x, C, H', rfl, I'.os, I'.bare, ⟨fun b o e n hb _ => ?_, fun b o e n hb _ => ?_, fun b o e n _ => I'.base.free b o e n (noex b), fun b o e _ => ?_, I'.base.tups, I'.base.frzs, I'.base.tbls⟩, left_ok I' kp, hx'.older (fun b q => ?_), hE⟩
  · obtain ⟨o', e'⟩ := there b o e
    exact kp b o (I'.base.keep b o e n hb (noex b)) (.inl (by rw [e']; simp)) (neL b o e hb)
  · obtain ⟨sl1, e1⟩ := I'.base.slot b o e n hb (noex b)
    obtain ⟨sl2, e2⟩ := sl b _ e1 (by
      obtain ⟨env, h1, h2⟩ := List.mem_filterMap.mp hb
      exact mem_frs (List.mem_cons_of_mem _ h1) h2)
    exact ⟨sl2, e2⟩
  · obtain ⟨o1, e1⟩ := I'.base.there b o e (noex b)
    by_cases hm : b ∈ frs (envOfC qual scope s₀.heap.objs.size f cdv :: outer)
    · obtain ⟨sl2, e2⟩ := sl b _ e1 hm
      exact ⟨_, e2⟩
    · obtain ⟨o', e'⟩ := there b o e
      exact ⟨_, kp b o1 e1 (.inl (by rw [e']; simp)) hm⟩
  · cases q2 : s₀.heap.get? b with
    | none => rfl
    | some o =>
      obtain ⟨o', e'⟩ := there b o q2
      rw [q] at e'; cases e'
theorem okE {x qual : Str} {st : Stmt} {f : Addr} {fd : FuncData} {N ps : List Str} {k : Nat} {sp : Sp} (F : Fun K x qual st f fd) (S : FnScope N ps (defScope st)) (len : ∀ vs H Q E, sp vs H Q E → vs.length = ps.length)
    (hbody : ∀ (cdv : Value) (A : Around) (outer : List Env) (s : Shared) (H : Hp) (vs : List V) (Q : VK) (E : XK), Room k (A.deeper (envOfC qual (defScope st) s.heap.objs.size f cdv)) → sp vs H Q E →
      ∃ t, PSs (cxOf (CXE P w) P w K mg base N qual (defScope st) f cdv A outer s H E) (defBody st) t ∧ t { nx := fun _ H' => Q .non H', rt := Q } (start N vs) H) : FnOk P w K mg base (CXE P w) (k + 1) f fd ps sp := by
  obtain ⟨oc, od, kV, doc, pm, an, cdv, ct, osl, rfl, lk, hcd⟩ := F.ex
  exact fn_of lk hcd S len fun A outer s H vs Q E hr hsp => hbody cdv A outer s H vs Q E hr hsp
end
end Lx
namespace Lx
open PySem PySem.Spec PyProof.Rows L2
noncomputable abbrev vMro : List Value := [.type "ValueError", .type "Exception", .type "BaseException", .type "object"]
theorem own_obj {K : PySem.W.Frag} {h : Heap} {C : Addr} {bmB : List Value} {newId : String} (KI : K.In h) (q : PySem.W.excIn K C bmB newId = true) :
    ∃ bm N nm qn bs hdct sn sub ab col dd k0 k1 k2 k3 k5 mN, h.get? C = some (excClassObj nm qn C N bs bm hdct sn sub ab col dd k0 k1 k2 k3 k5 newId) ∧ h.Ns N mN ∧ mN "__init__" = none ∧ OwnTail h bmB bm := by
  unfold PySem.W.excIn at q
  split at q
  · rename_i dct cdat slts hlook
    split at q
    · rename_i Cx bmx s0 s1 s2 s3 nw s5 hmr hsl
      simp only [Bool.and_eq_true, beq_iff_eq, Bool.not_eq_true'] at q
      obtain ⟨⟨⟨⟨⟨q1, q2⟩, q3⟩, q4⟩, q5⟩, q6⟩ := q
      subst q1; subst q2
      obtain ⟨f1, f2, f3, f4, f5, f6, f7, f8, f9, f10, f11⟩ := cdat
      dsimp only at hmr q3 q5 q6
      subst hmr; subst q3
      obtain ⟨sl⟩ := slts
      dsimp only at hsl
      subst hsl
      exact ⟨bmx, f4, f1, f5, f2, f6, f7, f8, f9, f10, dct, s0, s1, s2, s3, s5, _, KI _ _ hlook, .of_isNs (PySem.W.isNs_of_in KI q5), PySem.W.nsMap_none_of_in KI q5 q6, PySem.W.tail_of_in KI q4⟩
    · cases q
  · cases q
structure ExcCl (K : PySem.W.Frag) (mg : Str → Option Value) (x : Str) (C : Addr) : Prop where
  ex : PySem.W.excIn K C vMro "ValueError.__new__" = true
  mgx : mg x = some (.ref C)
noncomputable def tRaise (E : XK) (C : Addr) (t : TA) : TS := fun _ σ H => t σ H fun vs H1 => vs.length ≤ sizeLine ∧ E (.ref C) none H1
section
variable {X : Cx} {P : Program} {w : World} {E : XK} {x : Str} {C : Addr} {np cpos pos : Pos} {e : Expr} {es : List Expr} {t : TA}
theorem ps_raise (O : ExcCl X.K X.mg x C) (hh : X.A.handled = none) (hx : Passes (CXE X.prog X.w) X E) (hg : Gl X x) (ha : PA X (e :: es) t) (hd : (x == ("__debug__" : Str)) = false := by decide)
    (he : starEach (e :: es) X.env = (false, eval e X.env) :: starEach es X.env := by rfl) (hpl : (backTo cpos (starEach es X.env)).any (·.1) = false := by rfl) :
    PS X (.Raise (some (.Call (.Name x np) (e :: es) [] cpos)) none pos) (tRaise E C t) := by
  intro pins s σ H D I h
  obtain ⟨bm, N, nm, qn, bs, hdct, sn, sub, ab, col, dd, k0, k1, k2, k3, k5, mN, hC, hN, hni, T⟩ := own_obj I.ok.mod.kin O.ex
  refine wpAny_Raise_call_subU (C := C) (nm := nm) (q := qn) (N := N) (bs := bs) (bm := bm) (hdct := hdct) (sn := sn) (sub := sub) (ab := ab) (col := col) (dd := dd) (k0 := k0) (k1 := k1) (k2 := k2) (k3 := k3) (k5 := k5)
    PySem.F.excBase_ValueError (by decide +kernel) PySem.F.excBase_ValueError (mN := mN) (T.hasType PySem.F.excBase_ValueError.hasBase) hh (by rw [he]; show (false || (backTo cpos (starEach es X.env)).any (·.1)) = false; rw [hpl]; rfl) hni (ld_glob I hg O.mgx ⟨rfl, ?_⟩ hd)
  have ha1 := thn (ha cpos pins s σ H _ I h) (Q' := fun vs s₂ => vs.length ≤ sizeLine ∧ (∀ b o, X.base.get? b = some o → s₂.heap.get? b = some o) ∧ ∀ h' e, Heap.MadeExcOf s₂.heap h' e (.ref C) vs → X.xe (.ref e) { s₂ with heap := h' }) (fun us s2 ⟨vs, H1, I1, r, z, q⟩ => ⟨by rw [← r.length]; exact z, I1.bk, fun h' e M => ?_⟩)
  · rw [he] at ha1 ⊢
    exact Calls.evalArgs_plain (wpAny_mono ha1 (fun vs s₂ h₂ => ⟨rfl, h₂.1, h₂.2.1 _ _ hC, hN.keeps h₂.2.1, T.keeps h₂.2.1, h₂.2.2⟩) fun _ _ y => y)
  · refine hx pins σ H1 s2 (.ref e) _ I1 ⟨e, .ref C, H1, rfl, rfl, I1.bare, Un.kept M.keeps, I1.hok.kept M.keeps, ?_, q⟩
    obtain ⟨tt, t1, t2, t3⟩ := M.there
    refine ⟨_, _, t1, rfl, rfl, ?_, M.new, .inl rfl⟩
    cases z : H1 e with
    | none => rfl
    | some o =>
      obtain ⟨u, hu⟩ := obj_get (I1.hok e o z)
      rw [M.new] at hu; cases hu
end
noncomputable abbrev XS := L2.St → XK
noncomputable abbrev TSX := Ends → XS → L2.St → Hp → Prop
section
variable {X : Cx} {st : Stmt} {rest : List Stmt} {t u : TSX} {pos : Pos}
variable {k : Nat} {f : Addr} {fd : FuncData} {ps : List Str} {sp : Sp} {x : Str} {p : Pos} {e : Expr} {es : List Expr} {ta : TA}
end
end Lx
namespace Lx
open PySem PySem.Spec PyProof.Rows L2
section
variable {X : Cx} {pins : List (Addr × Obj)} {σ : L2.St} {H : Hp} {s : Shared} {x : Addr}
structure Old (X : Cx) (pins : List (Addr × Obj)) (h₁ : Heap) : Prop where
  s0 : ∀ b o, X.s₀.heap.get? b = some o → b ∉ X.ex → ∃ u, h₁.get? b = some u
  lo : ∃ u, h₁.get? X.env.locals = some u
  pn : ∀ p ∈ X.pn ++ pins, ∃ u, h₁.get? p.1 = some u
  ce : ∀ x c, X.env.cells.lookup x = some c → ∃ u, h₁.get? c = some u
end
section
variable {X : Cx}
end
end Lx
namespace Lx
open PySem PySem.Spec PyProof.Rows L2
theorem bits_lt {i : Int} {n : Nat} (h : i.natAbs < 2 ^ n) : Builtin.Int.intBits i ≤ n := by
  unfold Builtin.Int.intBits
  split
  · exact Nat.zero_le _
  · rcases Nat.eq_zero_or_pos i.natAbs with h0 | hp
    · rename_i hne
      exact absurd (Int.natAbs_eq_zero.mp h0) (by simpa using hne)
    · have := (Nat.log2_lt (Nat.ne_of_gt hp)).mpr h
      omega
noncomputable def Wee (i : Int) : Prop := i.natAbs < 2 ^ 8000
theorem Wee.bits {i : Int} (h : Wee i) : Builtin.Int.intBits i ≤ 8000 := bits_lt h
theorem mulOk {i j : Int} (hi : Wee i) (hj : Wee j) : IntMulOk i j := IntMulOk.of_le hi.bits hj.bits (by decide)
theorem mulOkBig {i j : Int} (hi : Builtin.Int.intBits i ≤ 10000000) (hj : Wee j) : IntMulOk i j := IntMulOk.of_le hi hj.bits (by decide)
theorem wee_log {i : Int} (h : Wee i) : i.natAbs.log2 < 9000 := by
  rcases Nat.eq_zero_or_pos i.natAbs with h0 | hp
  · rw [h0]; decide
  · have := (Nat.log2_lt (Nat.ne_of_gt hp)).mpr h
    omega
noncomputable def CMulB (i j : Int) : Prop := IntMulOk i j
noncomputable def CDivB (i j : Int) : Prop := 0 < j ∧ Wee j
noncomputable def CDivW (i j : Int) : Prop := j ≠ 0 ∧ Wee j
section
variable {X : Cx}
theorem op_mulB : OpR X (binaryOp .Mult) (rI CMulB fun i j => .int (i * j)) := opI fun _ _ _ _ _ _ _ hc q => mul_int q hc
theorem op_fdivW : OpR X (binaryOp .FloorDiv) (rI CDivW fun i j => .int (i.fdiv j)) := opI fun _ _ _ _ _ _ _ hc q => floordiv_int hc.1 q (.inl (PyProof.noPylong_of_log2 (wee_log hc.2)))
theorem op_fdivB : OpR X (binaryOp .FloorDiv) (rI CDivB fun i j => .int (i / j)) := opI fun i j _ _ _ _ _ hc q => by
  have h0 : (0 : Int) < j := hc.1
  refine floordiv_int (Int.ne_of_gt h0) ?_ (.inl (PyProof.noPylong_of_log2 (wee_log hc.2)))
  rw [Int.fdiv_eq_ediv_of_nonneg _ (Int.le_of_lt h0)]
  exact q
end
theorem bits_of_lay {ns : List Int} (h : PySem.W.WData.layableAll [PySem.W.WData.list (ns.map PySem.W.WData.int)] = true) : ∀ v ∈ ns, Builtin.Int.intBits v ≤ 1048576 := fun v hv => by
  have h1 := PySem.W.layableW_arg h _ (List.mem_singleton.mpr rfl)
  have h2 := PySem.W.layableW_item h1 (PySem.W.WData.int v) (List.mem_map.mpr ⟨v, hv, rfl⟩)
  obtain ⟨_, _, h3⟩ := PySem.W.layableW_iff.mp h2
  have e : (2 : Nat) ^ 20 = 1048576 := by decide
  rw [e] at h3
  simpa only [PySem.W.WData.weight, Builtin.Int.intBits] using h3
end Lx
namespace Att
open PySem PySem.W PySem.Calls PyProof.Rows
theorem attachB {l : OpenLaw} {n : Nat} {q : Program} {loose : List Str} {XP : (Str → Option Value) → Heap → Prop} {YP : World → Heap → Prop} {d : DefRec}
    (hn : l.most = some n) (hdf : d.params.defaults = [])
    (call : ∀ (w : World) (s₀ s₁ : Shared) (mg mb : Str → Option Value) (fa : Addr) (o : Obj) (pm cd doc : Value) (a : Addr) (vs : List Value) (ns : List Int),
      Ground q loose [] XP w s₀ mg mb s₁.heap → YP w s₁.heap →
      s₁.heap.get? fa = some o → o.data = .func (docDef d.name d.params d.body d.scope pm cd doc) → s₁.heap.CodeRec cd d.name → mg d.name = some (.ref fa) →
      s₁.heap.get? a = some { cls := .type "list", data := .seq vs.toArray } → IntsAre vs ns → ns.length ≤ n → (∀ v ∈ ns, Builtin.Int.intBits v ≤ 1048576) → s₁.gens = #[] →
      codeAny (model l.prog w) callerA (.call (.ref fa) ⟨[.ref a], []⟩) (fun r s' => r = .ok (.ret (.bool true)) ∧ OldK s₁.heap s'.heap ∧ s'.os = s₁.os ∧ AllBare s'.gens) s₁) :
    WalkO q loose XP YP l.row.toRowW d [] (fun f vs => PySem.call f vs) := by
  intro w s₀ s₁ mg mb G Y fa o pm cd doc dV kV ho hd hcd hD hmg hg args vals as hpre hlay hrd hwl hlo
  obtain rfl : dV = .none := Dflts.none hD hdf
  obtain rfl : kV = .none := Dflts.noKw hD
  obtain ⟨a, vs, ns, rfl, rfl, hobj, hints, hlen⟩ := script_of hn hpre hwl
  refine enter_call (codeAny_mono (call w s₀ s₁ mg mb fa o pm cd doc a vs ns G Y ho (fd_plain hd) hcd hmg hobj hints hlen (Lx.bits_of_lay hlay) hg) fun r s' hq => ?_)
  obtain ⟨rfl, h2, h3, h4⟩ := hq
  exact ⟨.inl ⟨.bool true, .bool true, [], rfl, fun _ => rfl, .bool true, post_true l _, fun _ => ⟨List.Pairwise.nil, fun _ hm => (nomatch hm)⟩⟩, h2, h3, h4⟩
end Att
namespace Lx
open PySem PySem.Spec PyProof.Rows L2
noncomputable def spLaw (K : PySem.W.Frag) : Sp := fun vs H Q _ => ∃ (a : Addr) (ns : List Int), vs = [.ref a] ∧ SqL K H a (ns.map V.int) ∧ ns.length ≤ 63 ∧ (∀ v ∈ ns, Builtin.Int.intBits v ≤ 1048576) ∧ Only H ∧ ∀ H', Q (.bl true) H'
theorem walkB {l : PySem.W.OpenLaw} {k : Nat} {q : Program} {loose : List Str} {XP : (Str → Option Value) → Heap → Prop} {YP : World → Heap → Prop} {d : DefRec} {K : Params → PySem.W.Frag}
    (hn : l.most = some 63) (hdf : d.params.defaults = []) (hr : Room k callerA)
    (hY : ∀ (w : World) (h : Heap), YP w h → (K w.params).In h)
    (F : ∀ (w : World) (mg : Str → Option Value) (fa : Addr) (h : Heap), (K w.params).In h → h.Ns mainGlobals mg → mg d.name = some (.ref fa) →
      ∃ fd : FuncData, (∀ (s : Shared) (u : Value), BindsTo s fd ⟨[u], []⟩ [("script", u)]) ∧
        ∀ base : Heap, (K w.params).In base → base.Ns mainGlobals mg → FnOk l.prog w (K w.params) mg base (CXE l.prog w) k fa fd ["script"] (spLaw (K w.params))) :
    PySem.W.WalkO q loose XP YP l.row.toRowW d [] (fun f vs => PySem.call f vs) := by
  refine Att.attachB hn hdf fun w s₀ s₁ mg mb fa o pm cd doc a vs ns G Y ho hd hcd hmg hobj hints hlen hbits hg => ?_
  have KX := hY w _ Y
  obtain ⟨fd, hb, hF⟩ := F w mg fa _ KX G.T.g hmg
  exact law_call KX G.T.g G.T.b G.T.builtins G.T.nolimit hg hobj hints (Nat.le_trans hlen (by decide)) hr hF hb (fun H hO hS => ⟨a, ns, rfl, hS, hlen, hbits, hO, fun _ => rfl⟩) fun H e s' ⟨_, _, _, _, _, _, _, _, _, h⟩ => h
end Lx
namespace Lx
open PySem PySem.Spec PyProof.Rows L2
section
variable {X : Cx} {tg : Expr}
end
end Lx
namespace Lx
open PySem PySem.Spec PyProof.Rows L2
section
variable {prog : Program} {w : World} {A : Around} {R : Result → Shared → Prop} {s : Shared}
theorem lc_loop {elt target iter : Expr} {ifs : List Expr} {scope : Scope} {pos : Pos} {it acc : Value} {cenv : Env} (J : Nat → Shared → Prop)
    (turn : ∀ n s, J n s → ∀ E' : Value → Shared → Prop, wpAny (model prog w) A (pyNext it) (fun r sa => match r with
      | none => R (.ok .next) sa
      | some v => wpAny (model prog w) A (letOwnedTupleGo target it v) (fun _ sb => wpAny (model prog w) A (assign target cenv v) (fun _ sc =>
          wpAny (model prog w) A (forIn ifs true fun c r => if r = true then do let ok ← isTrue c cenv (eval c cenv); pure (ForInStep.yield ok) else pure (ForInStep.yield r)) (fun ok sd =>
            if ok = true then wpAny (model prog w) A (eval elt cenv) (fun x se =>
              wpAny (model prog w) A (call (.builtin "list.append") [acc, x]) (fun _ sf => ∃ m, m < n ∧ J m sf) E' se) E' sd
            else ∃ m, m < n ∧ J m sd) E' sc) E' sb) E' sa) E' s)
    (n : Nat) (h : J n s) : codeAny (model prog w) A (.compLoop (.ListComp elt [⟨target, iter, ifs, 0⟩] scope pos) 0 it acc cenv) R s := by
  refine codeAny_loop rfl J (fun k sk hJ => ?_) n h
  show wpAny _ A ((compTurn (.ListComp elt [⟨target, iter, ifs, 0⟩] scope pos) 0 it acc cenv).onRaise (fun y => do noteFrame y cenv; theTreesLotGoes y)) _ _ sk
  refine wpAny_noted ?_
  rw [compTurn_list]
  refine wpAny_bind (wpAny_standAt (wpAny_bind (wpAny_mono (turn k sk hJ _) (fun r sa ha => ?_) fun _ _ z => z)))
  cases r with
  | none => exact wpAny_pure ha
  | some v =>
    refine wpAny_bind (wpAny_mono ha (fun _ sb hb => wpAny_bind (wpAny_mono hb (fun _ sc hc => wpAny_bind (wpAny_mono hc (fun ok sd hd => ?_) fun _ _ z => z)) fun _ _ z => z)) fun _ _ z => z)
    cases ok with
    | false => exact wpAny_pure ⟨rfl, hd⟩
    | true => exact wpAny_bind (wpAny_bind (wpAny_mono hd (fun x se he => wpAny_bind (wpAny_mono he (fun _ sf hf => wpAny_pure (wpAny_pure ⟨rfl, hf⟩)) fun _ _ z => z)) fun _ _ z => z))
end
noncomputable def lcCx (X : Cx) (scope : Scope) (cl : List (Str × Addr)) (NC : List Str) (C : Addr) (s₀ : Shared) (H₀ : Hp) (fp : List Addr) : Cx where
  prog := X.prog
  w := X.w
  K := X.K
  mg := X.mg
  base := X.base
  A := X.A
  N := NC
  s₀ := s₀
  H₀ := H₀
  env := compEnvC scope cl C X.env
  outer := X.stack
  stack := X.stack
  ex := fp
  fn := fun _ => false
  calm := X.calm
  pn := []
  xe := fun _ _ => False
noncomputable def CapsOk (X : Cx) (scope : Scope) (cl : List (Str × Addr)) : List (Option Nat) → List Str → Prop
  | [], [] => True
  | none :: cs, _ :: ns => CapsOk X scope cl cs ns
  | some i :: cs, y :: ns => (∃ c, X.N[i]? = some y ∧ X.env.scope.names.lookup y = some .cell ∧ cl.lookup y = some c ∧ X.env.cells.lookup y = some c ∧ (relabel scope X.env).names.lookup y = some .cell) ∧ CapsOk X scope cl cs ns
  | _, _ => False
theorem CapsOk.at {X : Cx} {scope : Scope} {cl : List (Str × Addr)} : ∀ {cs : List (Option Nat)} {ns : List Str} {j i : Nat} {y : Str}, CapsOk X scope cl cs ns → cs[j]? = some (some i) → ns[j]? = some y →
    ∃ c, X.N[i]? = some y ∧ X.env.scope.names.lookup y = some .cell ∧ cl.lookup y = some c ∧ X.env.cells.lookup y = some c ∧ (relabel scope X.env).names.lookup y = some .cell
  | [], _, j, i, y, _, e, _ => by simp at e
  | none :: cs, [], _, _, _, h, _, _ => False.elim h
  | some _ :: cs, [], _, _, _, h, _, _ => False.elim h
  | none :: cs, _ :: ns, 0, i, y, h, e, _ => by simp at e
  | none :: cs, _ :: ns, j + 1, i, y, h, e, e' => CapsOk.at (cs := cs) (ns := ns) (j := j) h (by simpa using e) (by simpa using e')
  | some k :: cs, z :: ns, 0, i, y, h, e, e' => by
    have e1 : k = i := by simpa using e
    have e2 : z = y := by simpa using e'
    subst e1; subst e2
    exact h.1
  | some k :: cs, z :: ns, j + 1, i, y, h, e, e' => CapsOk.at (cs := cs) (ns := ns) (j := j) h.2 (by simpa using e) (by simpa using e')
theorem CapsOk.len {X : Cx} {scope : Scope} {cl : List (Str × Addr)} : ∀ {cs : List (Option Nat)} {ns : List Str}, CapsOk X scope cl cs ns → cs.length = ns.length
  | [], [], _ => rfl
  | [], _ :: _, h => False.elim h
  | none :: cs, [], h => False.elim h
  | some _ :: cs, [], h => False.elim h
  | none :: cs, _ :: ns, h => congrArg (· + 1) (CapsOk.len (cs := cs) (ns := ns) h)
  | some _ :: cs, _ :: ns, h => congrArg (· + 1) (CapsOk.len (cs := cs) (ns := ns) h.2)
noncomputable def capσ (cap : List (Option Nat)) (σ : L2.St) : L2.St := cap.map fun o => o.bind fun i => (σ[i]?).bind id
noncomputable def PTs (X : Cx) (ifs : List Expr) (t : TT) : Prop :=
  ∀ (pins : List (Addr × Obj)) (s : Shared) (σ : L2.St) (H : Hp) (Q : Bool → Hp → Prop), Inv X pins σ H s → t σ H Q →
    wpAny (model X.prog X.w) X.A (forIn ifs true fun c r => if r = true then do let ok ← isTrue c X.env (eval c X.env); pure (ForInStep.yield ok) else pure (ForInStep.yield r)) (TP X pins σ Q) X.xe s
noncomputable def tYes : TT := fun _ H Q => Q true H
theorem pts_nil {X : Cx} : PTs X [] tYes := fun _ _ _ H _ I h => wpAny_tests_nil ⟨H, I, h⟩
theorem pts_one {X : Cx} {c : Expr} {t : TT} (h : PT X c t) : PTs X [c] t := fun pins s σ H Q I q => wpAny_tests_one (h pins s σ H Q I q)
noncomputable def tLC (wi : TI) (cap : List (Option Nat)) (g : TG) (tt : TT) (te : TE) : TE := fun σ H Q => wi σ H fun J H1 => ∀ D, H1 D = none →
  ∃ W : Nat → Nat → L2.St → Hp → Prop, (∃ m, W 0 m (capσ cap σ) (upd H1 D (.lst []))) ∧ ∀ i m σc Hc, W i m σc Hc →
    (J.stop i Hc ∧ Q (.ref D) Hc) ∨ (J.go i Hc ∧ ∃ N : L2.St → Hp → Prop, (∀ σ' H', N σ' H' → ∃ m', m' < m ∧ W (i + 1) m' σ' H') ∧ ∀ x H', J.yld i Hc x H' → g x σc H' fun σ2 H2 => tt σ2 H2 fun b H3 =>
      if b = true then te σ2 H3 fun y H4 => ∃ ys, H4 D = some (.lst ys) ∧ ys.length < sizeLine ∧ N σ2 (upd H4 D (.lst (ys ++ [y]))) else N σ2 H3)
structure LcOk (X : Cx) (scope : Scope) (cl : List (Str × Addr)) (cap : List (Option Nat)) (NC : List Str) : Prop where
  clos : closureFor scope X.env = pure cl
  kind : scope.kind = .function
  nocell : ∀ x ∈ scope.names, x.2 ≠ .cell
  names : ∀ x ∈ scope.names, x.2 = .local → scope.names.lookup x.1 = some .local
  caps : CapsOk X scope cl cap NC
  cells : ∀ p ∈ cl, X.env.cells.lookup p.1 = some p.2
  has : ((relabel scope X.env).names.all fun p => (p.2 != .cell && p.2 != .free) || (cl.lookup p.1).isSome) = true
section
variable {X : Cx} {elt target iter : Expr} {ifs : List Expr} {scope : Scope} {pos : Pos} {wi : TI} {cap : List (Option Nat)} {NC : List Str} {cl : List (Str × Addr)} {g : TG} {tt : TT} {te : TE}
theorem lc_cells (L : LcOk X scope cl cap NC) {x : Str} {c : Addr} (h : cl.lookup x = some c) : X.env.cells.lookup x = some c := L.cells (x, c) (PySem.mem_of_lookup h)
theorem lc_block {pins : List (Addr × Obj)} {σ : L2.St} {s₂ : Shared} {H2 : Hp} {it : Addr} {fp : List Addr} {tn : Nat → Heap → Prop} {J : It} {Z : Value → Addr → Result → Shared → Prop} {G : V → Hp → Prop}
    (hc : X.calm = true) (L : LcOk X scope cl cap NC) (hg : ∀ C s₀ H₀ fp, PG (lcCx X scope cl NC C s₀ H₀ fp) target g) (ht : ∀ C s₀ H₀ fp, PTs (lcCx X scope cl NC C s₀ H₀ fp) ifs tt) (he : ∀ C s₀ H₀ fp, PE (lcCx X scope cl NC C s₀ H₀ fp) elt te)
    (I2 : Inv X pins σ H2 s₂) (T : Turn X.prog X.w X.K target J fp it tn) (st2 : tn 0 s₂.heap) (f2 : ∀ b ∈ fp, FpOk X pins H2 b)
    (hW : ∀ D, H2 D = none → ∃ W : Nat → Nat → L2.St → Hp → Prop, (∃ m, W 0 m (capσ cap σ) (upd H2 D (.lst []))) ∧ ∀ i m σc Hc, W i m σc Hc →
      (J.stop i Hc ∧ G (.ref D) Hc) ∨ (J.go i Hc ∧ ∃ N : L2.St → Hp → Prop, (∀ σ' H', N σ' H' → ∃ m', m' < m ∧ W (i + 1) m' σ' H') ∧ ∀ x H', J.yld i Hc x H' → g x σc H' fun σ2 H2 => tt σ2 H2 fun b H3 =>
        if b = true then te σ2 H3 fun y H4 => ∃ ys, H4 D = some (.lst ys) ∧ ys.length < sizeLine ∧ N σ2 (upd H4 D (.lst (ys ++ [y]))) else N σ2 H3))
    (hZ : ∀ (D C : Addr) (Hc : Hp) (s' : Shared) (m : Str → Option Value), s'.heap.Ns C m → (∀ h', Heap.SameBut C s'.heap h' → ∀ t', Inv X pins σ Hc { s' with heap := h', toks := t' }) → FpOk X pins Hc C → G (.ref D) Hc → Z (.ref D) C (.ok .next) s') {E : Value → Shared → Prop} :
    wpAny (model X.prog X.w) X.A (newList []) (fun acc s₃ => wpAny (model X.prog X.w) X.A (newFunctionEnv scope X.env.globals cl [] X.env.qual none .none (some X.env)) (fun cenv s₄ =>
      codeAny (model X.prog X.w) X.A (.compStart (.ListComp elt [⟨target, iter, ifs, 0⟩] scope pos) 0 (.ref it) acc { cenv with scope := relabel scope X.env }) (Z acc cenv.locals) s₄) E s₃) E s₂ := by
  refine wpAny_newObj_type (wpAny_newFunctionEnv L.nocell (by intro y hy; simp at hy) (fun h₁ hns₁ hsb₁ => ?_) L.kind)
  dsimp only at hns₁ hsb₁ ⊢
  have nD : H2 s₂.heap.objs.size = none := I2.hok.fresh (Nat.le_refl _)
  have I3 : Inv X pins σ (upd H2 s₂.heap.objs.size (.lst [])) { s₂ with heap := s₂.heap.push { cls := .type "list", dict := none, data := .seq ([] : List Value).toArray } } := by
    refine I2.laid (t' := s₂.toks) (fun b u e => Heap.get?_push_of_some _ e) (Nat.le_refl _) ?_
    exact ⟨Nat.zero_le _, [], 0, .nil, Heap.get?_push_size _ rfl⟩
  obtain ⟨W, ⟨m0, w0⟩, turn⟩ := hW s₂.heap.objs.size nD
  generalize hD : s₂.heap.objs.size = D at nD I3 turn w0 ⊢
  generalize hH : s₂.heap.push { cls := .type "list", dict := none, data := .seq ([] : List Value).toArray } = h₀ at hns₁ hsb₁ I3 ⊢
  have hpush : ∀ b o, s₂.heap.get? b = some o → h₀.get? b = some o := fun b o e => by rw [← hH]; exact Heap.get?_push_of_some _ e
  generalize hC : h₀.objs.size = C at hns₁ hsb₁ ⊢
  have belowC : ∀ b o, h₀.get? b = some o → b ≠ C := fun b o e z => by
    have := Heap.lt_size e
    rw [hC, ← z] at this
    exact Nat.lt_irrefl _ this
  have old : ∀ b o, h₀.get? b = some o → h₁.get? b = some o := fun b o e => hsb₁.extBut b o (belowC b o e) (Heap.get?_push_of_some _ e)
  have f3 : ∀ b ∈ fp, FpOk X pins (upd H2 D (.lst [])) b := fun b hb => by
    obtain ⟨x1, x2⟩ := f2 b hb
    obtain ⟨o, e, _⟩ := T.obj 0 _ st2 b hb
    refine ⟨?_, x2⟩
    rw [upd_ne (fun z => by have := Heap.lt_size e; rw [z, ← hD] at this; exact Nat.lt_irrefl _ this)]
    exact x1
  have fpC : ∀ b ∈ fp, b ≠ C := fun b hb => by
    obtain ⟨o, e, _⟩ := T.obj 0 _ st2 b hb
    exact belowC b o (hpush b o e)
  have clC : ∀ x c, cl.lookup x = some c → c ≠ C := fun x c e => by
    obtain ⟨v, o, ho, _⟩ := I3.cell x c (lc_cells L e)
    exact belowC c o ho
  let Y : Cx := lcCx X scope cl NC C { s₂ with heap := h₀ } (upd H2 D (.lst [])) fp
  have noC : (upd H2 D (.lst [])) C = none := I3.hok.fresh (by show h₀.objs.size ≤ C; rw [hC]; exact Nat.le_refl _)
  have okY : Y.Ok := by
    refine ⟨I3.ok.mod, by show (relabel scope X.env).kind = _; exact L.kind, I3.ok.glob, I3.ok.blt, by show h₀.objs.size ≤ C; rw [hC]; exact Nat.le_refl _, fun x y c e1 e2 => I3.ok.inj x y c (lc_cells L e1) (lc_cells L e2), fun x hx => ?_, fun x c z => (by cases z), I3.ok.hd, I3.ok.frames, .inl rfl, fun b hb => ⟨fpC b hb, fun x c e => (f3 b hb).2.2.2.2.1 x c (lc_cells L e)⟩, I3.bs, Nat.le_trans I3.ok.bsz I3.sz, fun b o e hb => ?_, fun b hb hm => ?_, I3.stack, I3.stkFree⟩
    · have mem : ∃ k, (x, k) ∈ (relabel scope X.env).names ∧ (k = .cell ∨ k = .free) := by
        rcases hx with z | z
        · exact ⟨_, PySem.mem_of_lookup z, .inl rfl⟩
        · exact ⟨_, PySem.mem_of_lookup z, .inr rfl⟩
      obtain ⟨k, hk, hk2⟩ := mem
      have q := List.all_eq_true.mp L.has (x, k) hk
      have q2 : (cl.lookup x).isSome = true := by
        rcases hk2 with z | z
        · subst z; simpa using q
        · subst z; simpa using q
      exact Option.isSome_iff_exists.mp q2
    · rcases (f3 b hb).2.2.2.1 with z | z
      · exact I3.ok.noex b o e z
      · exact absurd (Nat.lt_of_lt_of_le (Heap.lt_size e) (Nat.le_trans I3.ok.bsz z)) (Nat.lt_irrefl _)
    · rcases List.mem_cons.mp (I3.stkSub b hm) with z | z
      · exact (f3 b hb).2.1 z
      · exact (f3 b hb).2.2.1 z
  have stat : ∀ {Hc : Hp}, (∀ b ∈ fp, Hc b = none) → ∀ b ∈ fp, FpOk Y [] Hc b := fun hn b hb =>
    ⟨hn b hb, fpC b hb, okY.exfs b hb, .inl hb, fun x c e => (okY.exf b hb).2 x c e, fun p hp => absurd (show p ∈ ([] ++ [] : List (Addr × Obj)) from hp) (by simp)⟩
  have back : ∀ {σc : L2.St} {Hc : Hp} {s' : Shared} {pn : List (Addr × Obj)}, Inv Y pn σc Hc s' → ∀ h', Heap.SameBut C s'.heap h' → ∀ t', Inv X pins σ Hc { s' with heap := h', toks := t' } := fun {σc Hc s' pn} I' h' sb t' => by
    have u := I'.base
    have nC : Hc C = none := I'.free
    refine I3.call' (s' := { s' with heap := h', toks := t' }) (ch := fp) I'.os ⟨fun b o e n hb hx => ?_, fun b o e n hb hx => ?_, u.free, fun b o e hx => ?_, u.tups, u.frzs, u.tbls⟩ (fun b o e => ?_) I'.bare (fun b hb => ⟨(f3 b hb).2.2.2.1, (f3 b hb).2.1, (f3 b hb).2.2.2.2.1, (f3 b hb).2.2.2.2.2⟩)
    · exact (sb.2 b (belowC b o e)).trans (u.keep b o e n hb hx)
    · obtain ⟨sl, q⟩ := u.slot b o e n hb hx
      exact ⟨sl, (sb.2 b (belowC b o e)).trans q⟩
    · obtain ⟨o', q⟩ := u.there b o e hx
      exact ⟨o', (sb.2 b (belowC b o e)).trans q⟩
    · refine (I'.hok b o e).stay (fun c v hcb q => (sb.2 c ?_).trans q) (fun _ q => q) fun _ _ q => q
      rintro rfl
      rcases hcb with z | z
      · subst z
        rw [nC] at e; cases e
      · rw [nC] at z; cases z
  have Ist : ∀ t', Inv Y [] (capσ cap σ) (upd H2 D (.lst [])) { s₂ with heap := h₁, toks := t' } := fun t' => by
    refine ⟨okY, rfl, I3.bare, ⟨fun b o e _ _ _ => old b o e, fun b o e _ _ _ => ⟨o.slots, old b o e⟩, fun _ _ _ n _ => n, fun b o e _ => ⟨o, old b o e⟩, fun _ _ e => e, fun _ _ _ e => e, fun b ps e => ⟨#[], by rw [show (upd H2 D (.lst [])) b = _ from e]; simp⟩⟩, ⟨_, hns₁, fun j y v e1 e2 e3 => ?_⟩, fun y c e => ?_, noC, fun y c e => I3.freeC y c (lc_cells L e), fun p hp => absurd (show p ∈ ([] ++ [] : List (Addr × Obj)) from hp) (by simp), I3.hok.kept old, by
      show (cap.map _).length = NC.length
      rw [List.length_map]; exact L.caps.len⟩
    · have e2' : (cap.map fun o => o.bind fun i => (σ[i]?).bind id)[j]? = some (some v) := e2
      rw [List.getElem?_map] at e2'
      cases hq : cap[j]? with
      | none => rw [hq] at e2'; cases e2'
      | some o =>
        rw [hq] at e2'
        cases o with
        | none => cases e2'
        | some i =>
          have e4 : (σ[i]?).bind id = some v := by simpa using e2'
          have e5 : σ[i]? = some (some v) := by
            cases hs : σ[i]? with
            | none => rw [hs] at e4; cases e4
            | some z => rw [hs] at e4; simpa using e4
          obtain ⟨c, x1, x2, x3, x4, x5⟩ := L.caps.at hq e1
          obtain ⟨m, hn, hl⟩ := I3.loc
          obtain ⟨u, r, l⟩ := hl i y v x1 e5 (.inr (.inl x2))
          refine ⟨u, r, .inr ⟨.inl x5, c, x3, ?_⟩⟩
          rcases l with ⟨k, _⟩ | ⟨_, c', x6, z⟩
          · have k' : X.env.scope.names.lookup y = some .local := k
            rw [x2] at k'; cases k'
          · rw [x4] at x6; cases x6
            obtain ⟨o, ho, hd⟩ := z
            exact ⟨o, old _ _ ho, hd⟩
    · obtain ⟨v, o, ho, hd⟩ := I3.cell y c (lc_cells L e)
      exact ⟨v, o, old _ _ ho, hd⟩
  have loop : ∀ s₃ : Shared, s₃ = { s₂ with heap := h₁, toks := s₂.toks + ([] : List (Str × Value)).length } →
      codeAny (model X.prog X.w) X.A (.compLoop (.ListComp elt [⟨target, iter, ifs, 0⟩] scope pos) 0 (.ref it) (.ref D) (compEnvC scope cl C X.env)) (Z (.ref D) C) s₃ := by
    rintro s₃ rfl
    refine lc_loop (fun n s' => ∃ i σc Hc, Inv Y [] σc Hc s' ∧ tn i s'.heap ∧ (∀ b ∈ fp, Hc b = none) ∧ W i n σc Hc) ?_ m0 ⟨0, capσ cap σ, _, Ist _, T.keep _ _ _ st2 (fun b hb o e => old b o (hpush b o e)), fun b hb => (f3 b hb).1, w0⟩
    rintro n s5 ⟨i, σc, Hc, I5, st5, fr5, w5⟩ E'
    rcases turn i n σc Hc w5 with ⟨stop, qn⟩ | ⟨go, N, hN, step⟩
    · refine wpAny_mono (T.done Y rfl rfl rfl hc i [] s5 σc Hc E' I5 (stat fr5) st5 stop) (fun r s6 ⟨hr, I6⟩ => ?_) fun _ _ z => z
      subst hr
      obtain ⟨m, hn, _⟩ := id I6.loc
      exact hZ D C Hc s6 m hn (back I6) (I3.fpOk (by show h₀.objs.size ≤ C; rw [hC]; exact Nat.le_refl _) I6.free) qn
    · refine wpAny_mono (T.item Y rfl rfl rfl hc i [] s5 σc Hc E' I5 (stat fr5) st5 go) (fun r s6 ⟨u, hr, h6⟩ => ?_) fun _ _ z => z
      subst hr
      refine wpAny_mono h6 (fun _ s7 ⟨x, H7, I7, r7, y7, st7, fr7⟩ => ?_) fun _ _ z => z
      have I7' := I7.pinned (stat fr7) (T.obj _ _ st7)
      refine wpAny_mono (hg C _ _ fp _ s7 σc H7 x u _ I7' r7 (step x H7 y7)) (fun _ s8 ⟨σ8, H8, I8, q8⟩ => ?_) fun _ _ z => False.elim z
      have again : ∀ {σ9 : L2.St} {H9 : Hp} {s9 : Shared}, Inv Y ([] ++ pinsAt fp s7.heap) σ9 H9 s9 → N σ9 H9 → ∃ m, m < n ∧ ∃ i σ' H', Inv Y [] σ' H' s9 ∧ tn i s9.heap ∧ (∀ b ∈ fp, H' b = none) ∧ W i m σ' H' := fun {σ9 H9 s9} I9 n9 => by
        obtain ⟨m', hm, w9⟩ := hN σ9 H9 n9
        refine ⟨m', hm, i + 1, σ9, H9, I9.unpinned, T.keep _ _ _ st7 fun b hb o e => (I9.pin (b, o) (List.mem_append_right _ (List.mem_append_right _ (mem_pinsAt hb e)))).1, fun b hb => ?_, w9⟩
        obtain ⟨o, e, d⟩ := T.obj _ _ st7 b hb
        exact (I9.pin (b, o) (List.mem_append_right _ (List.mem_append_right _ (mem_pinsAt hb e)))).2.1
      refine wpAny_mono (ht C _ _ fp _ s8 σ8 H8 _ I8 q8) (fun ok s9 ⟨H9, I9, q9⟩ => ?_) fun _ _ z => False.elim z
      cases ok with
      | false =>
        rw [if_neg Bool.false_ne_true] at q9 ⊢
        exact again I9 q9
      | true =>
        rw [if_pos rfl] at q9 ⊢
        refine wpAny_mono (he C _ _ fp _ s9 σ8 H9 _ I9 q9) (fun v sa ⟨y, Ha, Ia, ra, ys, hy, hl, na⟩ => ?_) fun _ _ z => False.elim z
        have app := mt_append (X := Y) _ sa σ8 Ha (.ref D) [y] (.ref D) [v] (fun _ Hb => N σ8 Hb) Ia rfl (.cons ra .nil) ⟨D, ys, y, rfl, rfl, hy, hl, na⟩
        exact wpAny_mono app (fun _ sb ⟨_, Hb, Ib, _, nb⟩ => again Ib nb) fun _ _ z => False.elim z
  exact codeAny_compStart_list (loop _ rfl) (T.self _ 0 _ _ _ (T.keep _ _ _ st2 fun b hb o e => old b o (hpush b o e)) (loop _ rfl))
theorem pe_lc (hc : X.calm = true) (L : LcOk X scope cl cap NC) (hi : PI X target iter wi) (hg : ∀ C s₀ H₀ fp, PG (lcCx X scope cl NC C s₀ H₀ fp) target g) (ht : ∀ C s₀ H₀ fp, PTs (lcCx X scope cl NC C s₀ H₀ fp) ifs tt) (he : ∀ C s₀ H₀ fp, PE (lcCx X scope cl NC C s₀ H₀ fp) elt te)
    (hs : ∀ x, foldedSetIterable iter X.env x = pure x := by intro _; rfl) : PE X (.ListComp elt [⟨target, iter, ifs, 0⟩] scope pos) (tLC wi cap g tt te) := by
  intro pins s σ H Q I h
  rw [eval_ListComp]
  refine wpAny_comprehension_free (use := none) rfl hs L.clos L.kind L.names (thn (hi pins s σ H _ I h) fun xv s₁ h₁ => thn h₁ fun itv s₂ h₂ => ?_)
  obtain ⟨it, fp, tn, J, H2, rfl, I2, T, st2, f2, hq⟩ := h₂
  refine lc_block (G := Q) hc L hg ht he I2 T st2 f2 hq fun D C Hc s' m hn back _ q => ?_
  exact ⟨m, hn, fun h' sb => ⟨.ref D, Hc, back h' sb _, rfl, q⟩⟩
end
end Lx
namespace Lx
open PySem PySem.Spec PyProof.Rows L2
mutual
inductive DV (K : PySem.W.Frag) (H : Hp) : V → PyData → Prop
  | non : DV K H .non .none
  | bl (b : Bool) : DV K H (.bl b) (.bool b)
  | int (i : Int) : DV K H (.int i) (.int i)
  | str (x : Str) : DV K H (.str x) (.str x)
  | tup {a : Addr} {xs : List V} {ds : List PyData} : SqT K H a xs → DVs K H xs ds → DV K H (.ref a) (.tuple ds)
  | lst {a : Addr} {xs : List V} {ds : List PyData} : SqL K H a xs → DVs K H xs ds → DV K H (.ref a) (.list ds)
    | dct {a : Addr} {x y : Str} : H a = some (.dK [(.inr x, .str y)]) → DV K H (.ref a) (.dict [(.str x, .str y)])
inductive DVs (K : PySem.W.Frag) (H : Hp) : List V → List PyData → Prop
  | nil : DVs K H [] []
  | cons {x : V} {xs : List V} {d : PyData} {ds : List PyData} : DV K H x d → DVs K H xs ds → DVs K H (x :: xs) (d :: ds)
end
section
variable {X : Cx} {pins : List (Addr × Obj)} {σ : L2.St} {H : Hp} {s : Shared}
mutual
theorem dv_reads (I : Inv X pins σ H s) : ∀ {x : V} {d : PyData} {u : Value}, DV X.K H x d → RelV x u → ∃ as, Reads s.heap u d as
  | _, _, u, .non, r => by
    cases (show u = Value.none from r)
    exact ⟨_, .none⟩
  | _, _, u, .bl b, r => by
    cases (show u = Value.bool b from r)
    exact ⟨_, .bool b⟩
  | _, _, u, .int i, r => by
    obtain ⟨t, rfl⟩ := r
    exact ⟨_, .int i t⟩
  | _, _, u, .str x, r => by
    obtain ⟨t, rfl⟩ := r
    exact ⟨_, .str x t⟩
  | _, _, u, @DV.tup _ _ a xs ds h hs, r => by
    cases (show u = Value.ref a from r)
    obtain ⟨its, rv, ⟨o, ho, hc, n, hd⟩, _⟩ := I.tuple h
    obtain ⟨as, q⟩ := dvs_reads I hs rv
    exact ⟨_, .tuple ho hc hd (by simpa using q)⟩
  | _, _, u, @DV.lst _ _ a xs ds h hs, r => by
    cases (show u = Value.ref a from r)
    obtain ⟨its, rv, ⟨o, n, ho, hc, _, hd⟩, _⟩ := I.list h
    obtain ⟨as, q⟩ := dvs_reads I hs rv
    exact ⟨_, .list ho hc hd (by simpa using q)⟩
  | _, _, u, @DV.dct _ _ a x y h, r => by
    cases (show u = Value.ref a from r)
    obtain ⟨_, _, vs, rel, o, es, ep, ho, hc, hd, hk, hp, _⟩ := (show ObjOk X.prog X.w H s.heap a (.dK [(.inr x, .str y)]) from I.hok a _ h)
    unfold KV at rel
    cases rel with
    | @cons p q ps qs h1 t =>
      cases t
      obtain ⟨k, v⟩ := q
      obtain ⟨e1, t1, e2⟩ := h1
      have e1' : Sum.inr x = k := e1
      subst e1'
      have e2' : v = Value.str y t1 := e2
      subst e2'
      generalize hes : es.toList = l at hp
      cases hp with
      | @cons e kv es' kvs' hk1 hv1 ht1 =>
        cases ht1
        have hk2 : keyIs (.inr x) e.key = true := hk1
        have ek : ∃ t2, e.key = Value.str x t2 := by
          rcases keyIs_shape hk2 with ⟨i, t2, z, _⟩ | ⟨x2, t2, z, z2⟩
          · exact nomatch z
          · cases z; exact ⟨t2, z2⟩
        obtain ⟨t2, ek⟩ := ek
        have ev : e.val = Value.str y t1 := hv1
        exact ⟨_, .dict (as := [] ++ []) (bs := [] ++ []) ho hc.1 hd (by rw [hes]; show ReadsAll _ [e.key] [PyData.str x] _; rw [ek]; exact .cons (.str x t2) .nil) (by rw [hes]; show ReadsAll _ [e.val] [PyData.str y] _; rw [ev]; exact .cons (.str y t1) .nil)⟩
theorem dvs_reads (I : Inv X pins σ H s) : ∀ {xs : List V} {ds : List PyData} {us : List Value}, DVs X.K H xs ds → Vals xs us → ∃ as, ReadsAll s.heap us ds as
  | _, _, _, .nil, .nil => ⟨_, .nil⟩
  | _, _, _, .cons h hs, .cons r rs => by
    obtain ⟨as, q⟩ := dv_reads I h r
    obtain ⟨bs, qs⟩ := dvs_reads I hs rs
    exact ⟨_, .cons q qs⟩
end
end
structure Enc (α : Type) where
  d : α → PyData
  dep : Nat
  small : dep ≤ 60
  lay : ∀ x, (d x).canLay0 = true
  depth : ∀ x, (d x).depth ≤ dep
  eqv : ∀ x y, PyData.eqv (d x) (d y) = true ↔ x = y
theorem Enc.shaped {α : Type} (e : Enc α) (x : α) : SeqAt.shaped (e.d x) = true := by
  unfold SeqAt.shaped
  rw [e.lay, Bool.true_and]
  exact decide_eq_true (Nat.le_trans (e.depth x) (Nat.le_trans e.small (by decide)))
theorem enc_all {α : Type} (e : Enc α) : ∀ (xs : List α), PyData.canLayAll0 (xs.map e.d) = true ∧ PyData.depthAll (xs.map e.d) ≤ e.dep
  | [] => ⟨rfl, by simp [PyData.depthAll]⟩
  | x :: xs => by
    obtain ⟨h1, h2⟩ := enc_all e xs
    have h3 := e.lay x
    have h4 := e.depth x
    constructor
    · show ((e.d x).canLay0 && PyData.canLayAll0 (xs.map e.d)) = true
      rw [h3, h1]; rfl
    · show PyData.depthAll (e.d x :: xs.map e.d) ≤ e.dep
      simp only [PyData.depthAll]
      omega
theorem enc_eqvAll {α : Type} (e : Enc α) : ∀ (xs ys : List α), PyData.eqvAll (xs.map e.d) (ys.map e.d) = true ↔ xs = ys
  | [], [] => by simp [PyData.eqvAll]
  | [], y :: ys => by simp [PyData.eqvAll]
  | x :: xs, [] => by simp [PyData.eqvAll]
  | x :: xs, y :: ys => by
    have h := enc_eqvAll e xs ys
    have h2 := e.eqv x y
    simp only [List.map_cons, PyData.eqvAll, Bool.and_eq_true, h, h2, List.cons.injEq]
noncomputable def eList {α : Type} (e : Enc α) (h : e.dep ≤ 50) : Enc (List α) where
  d := fun xs => .list (xs.map e.d)
  dep := e.dep + 1
  small := by omega
  lay := fun xs => by show PyData.canLayAll0 _ = true; exact (enc_all e xs).1
  depth := fun xs => by
    have := (enc_all e xs).2
    simp only [PyData.depth]
    omega
  eqv := fun xs ys => by
    show PyData.eqvAll _ _ = true ↔ _
    exact enc_eqvAll e xs ys
noncomputable def eRat : Enc Rat where
  d := fun q => .tuple [.int q.num, .int (q.den : Int)]
  dep := 1
  small := by decide
  lay := fun q => by simp [PyData.canLay0, PyData.canLayAll0]
  depth := fun q => by simp [PyData.depth, PyData.depthAll]
  eqv := fun p q => by
    simp only [PyData.eqv, PyData.eqvAll, Bool.and_eq_true, beq_iff_eq, and_true]
    constructor
    · rintro ⟨h1, h2⟩
      exact Rat.ext h1 (by omega)
    · rintro rfl
      exact ⟨rfl, rfl⟩
noncomputable def rEqD (K : PySem.W.Frag) (neg : Bool) : R2 := fun x y H Q => ∃ (α : Type) (e : Enc α) (a b : α), DV K H x (e.d a) ∧ DV K H y (e.d b) ∧ ∀ k : Bool, (k = true ↔ a = b) → Q (.bl (if neg then !k else k)) H
section
variable {X : Cx}
theorem op_eqD (hu : X.A.units + 64 < cLine) : OpR X (compareOp .Eq) (rEqD X.K false) := by
  intro pins s σ H x y v u Q I rx ry h
  obtain ⟨α, e, a, b, da, db, q⟩ := h
  obtain ⟨as, r1⟩ := dv_reads I da rx
  obtain ⟨bs, r2⟩ := dv_reads I db ry
  exact eq_dataH r1 r2 (e.shaped a) (e.shaped b) hu ⟨.bl _, H, I, rfl, q _ (e.eqv a b)⟩
theorem op_neD (hu : X.A.units + 64 < cLine) : OpR X (compareOp .NotEq) (rEqD X.K true) := by
  intro pins s σ H x y v u Q I rx ry h
  obtain ⟨α, e, a, b, da, db, q⟩ := h
  obtain ⟨as, r1⟩ := dv_reads I da rx
  obtain ⟨bs, r2⟩ := dv_reads I db ry
  exact ne_dataH r1 r2 (e.shaped a) (e.shaped b) hu ⟨.bl _, H, I, rfl, q _ (e.eqv a b)⟩
theorem any_enc {α : Type} (e : Enc α) (a : α) : ∀ bs : List α, ((bs.map e.d).any fun y => PyData.eqv y (e.d a)) = true ↔ a ∈ bs
  | [] => by simp
  | b :: bs => by
    have h := any_enc e a bs
    have h2 := e.eqv b a
    simp only [List.map_cons, List.any_cons, Bool.or_eq_true, h, h2, List.mem_cons]
    constructor
    · rintro (z | z)
      · exact .inl z.symm
      · exact .inr z
    · rintro (z | z)
      · exact .inl z.symm
      · exact .inr z
end
end Lx
namespace Lx
open PySem PySem.Spec PyProof.Rows L2
structure ExcK (K : PySem.W.Frag) (C : Addr) : Prop where
  fg : PySem.W.findIn K (.ref C) "__getattribute__" = some (some (.builtin "BaseException.__getattribute__"))
  fa : PySem.W.findIn K (.ref C) "__getattr__" = some none
  fc : PySem.W.findIn K (.ref C) "__class__" = some (some (.builtin "object.__class__"))
  so : PySem.W.subIn K (.ref C) (.type "object") = some true
  sb : PySem.W.subIn K (.ref C) (.type "BaseException") = some true
section
variable {prog : Program} {w : World} {A : Around} {E : Value → Shared → Prop} {h : Heap} {g : Array GenState} {d : Drawn} {t : Nat} {os : OsState} {a C : Addr} {o : Obj} {K : PySem.W.Frag}
end
noncomputable def IsExc (x C : Addr) (h : Heap) : Prop := ∃ o vs, h.get? x = some o ∧ o.cls = .ref C ∧ o.data = .fields vs
section
variable {X : Cx}
variable {pins : List (Addr × Obj)} {σ : L2.St} {H : Hp} {s : Shared} {x C : Addr}
end
end Lx
namespace Lx
open PySem PySem.Spec PyProof.Rows L2
section
variable {X : Cx} {K : PySem.W.Frag}
theorem ixlK (h : X.K = K) : IxR X (rIxL K) := by subst h; exact ix_list
theorem ixtK (h : X.K = K) : IxR X (rIxT K) := by subst h; exact ix_tup
theorem lenK (h : X.K = K) : CallR X (.builtin "len") (fun xs H Q => ∃ p ys, xs = [.ref p] ∧ (SqL K H p ys ∨ SqT K H p ys) ∧ Q (.int ys.length) H) := by subst h; exact call_len_seq
theorem listK (h : X.K = K) : CallR X (.type "list") (fun xs H Q => ∃ p ys, xs = [.ref p] ∧ (SqL K H p ys ∨ SqT K H p ys) ∧ ∀ l, H l = none → Q (.ref l) (upd H l (.lst ys))) := by subst h; exact call_list_of
theorem sllK (h : X.K = K) : SlR X (rSlL K) := by subst h; exact sl_list
theorem eqK (h : X.K = K) (hu : X.A.units + 64 < cLine) : OpR X (compareOp .Eq) (rEqD K false) := by subst h; exact op_eqD hu
theorem neK (h : X.K = K) (hu : X.A.units + 64 < cLine) : OpR X (compareOp .NotEq) (rEqD K true) := by subst h; exact op_neD hu
theorem pilK {tg l : Expr} {tl : TE} (h : X.K = K) (hl : PE X l tl) : PI X tg l (iList K tl) := by subst h; exact pi_list hl
theorem pgtK {es : List Expr} {k : Nat} {pos : Pos} {t : TGs} {n : Nat} (h : X.K = K) (hc : X.calm = true) (hg : PGs X es t)
    (hn : (assignEach es X.env).length = n := by rfl) (hst : (assignEach es X.env).findIdx? (·.1) = none := by rfl) : PG X (.Tuple es k pos) (gTup K n t) := by subst h; exact pg_tup hc hg hn hst
end
end Lx
namespace Lx
open PySem PySem.Spec PyProof.Rows L2
section
variable {X : Cx} {elt target iter : Expr} {ifs : List Expr} {scope : Scope} {pos spos pos' : Pos} {wi : TI} {cap : List (Option Nat)} {NC : List Str} {cl : List (Str × Addr)} {g : TG} {tt : TT} {te : TE}
theorem ps_setLC {i : Nat} {x : Str} (hN : X.N.Nodup) (hi : X.N[i]? = some x) (hx : X.env.scope.names.lookup x = some .local) (hc : X.calm = true) (L : LcOk X scope cl cap NC) (hit : PI X target iter wi)
    (hg : ∀ C s₀ H₀ fp, PG (lcCx X scope cl NC C s₀ H₀ fp) target g) (ht : ∀ C s₀ H₀ fp, PTs (lcCx X scope cl NC C s₀ H₀ fp) ifs tt) (he : ∀ C s₀ H₀ fp, PE (lcCx X scope cl NC C s₀ H₀ fp) elt te)
    (hsw : swapsWith (.ListComp elt [⟨target, iter, ifs, 0⟩] scope pos) (some (.Name x pos')) spos.line X.env = pure true := by rfl)
    (hs : ∀ x, foldedSetIterable iter X.env x = pure x := by intro _; rfl) : PS X (.Assign [.Name x pos'] (.ListComp elt [⟨target, iter, ifs, 0⟩] scope pos) spos) (tAsg (tLC wi cap g tt te) (gName i)) := by
  intro pins s σ H D I h
  rw [exec_Assign_Name_used _ _ _ _ hsw]
  refine wpAny_bind (wpAny_standAt (wpAny_bind ?_))
  show wpAny _ X.A (do let _ ← comprehension (.ListComp elt [⟨target, iter, ifs, 0⟩] scope pos) scope X.env _ (newList []) false (eval iter X.env) (some (assign (.Name x pos') X.env))) _ _ s
  refine wpAny_bind (wpAny_mono (wpAny_comprehension_free (use := some (assign (.Name x pos') X.env)) (Q := fun _ s' => SP X pins D .next s') rfl hs L.clos L.kind L.names
    (thn (hit pins s σ H _ I h) fun xv s₁ h₁ => thn h₁ fun itv s₂ h₂ => ?_)) (fun _ s' hq => wpAny_pure (wpAny_pure hq)) fun _ _ e => e)
  obtain ⟨it, fp, tn, J, H2, rfl, I2, T, st2, f2, hq⟩ := h₂
  refine lc_block (G := fun v H' => D.nx (σ.set i (some v)) H') hc L hg ht he I2 T st2 f2 hq fun Dd C Hc s' m hn back fpC q => ?_
  obtain ⟨z1, z2, z3, z4, z5, z6⟩ := fpC
  have Ib : Inv X pins σ Hc s' := back s'.heap (.refl _ _) s'.toks
  show wpAny _ X.A (assign (.Name x pos') X.env (.ref Dd)) _ _ _
  refine wpAny_assign_Name (store_ok2 Ib hN hi (.inl hx) (show RelV (.ref Dd) (.ref Dd) from rfl) (fun s2 I2 ⟨a, sb, ha⟩ => ?_) (.inr hx))
  have hCa : C ≠ a := by
    rcases ha with z | z
    · rw [z]; exact z2
    · exact fun e => z5 x a z e.symm
  refine ⟨m, hn.sameBut sb hCa, fun h' sb' => ⟨_, Hc, ?_, q⟩⟩
  exact I2.turned (t' := s2.toks) (it := C) (fun b o hb e => (sb'.2 b hb).trans e) z1 z2 z4 z5 z6
end
section
variable {X : Cx} {K : PySem.W.Frag}
end
end Lx
namespace Fm
theorem abs_if (i : Int) : (if i < 0 then -i else i) = ((i.natAbs : Nat) : Int) := by omega
theorem gcd_step (a b : Int) (h : 0 < b) : Int.gcd b (a % b) = Int.gcd a b := by
  rw [Int.gcd_comm b (a % b), Int.emod_def]
  exact Int.gcd_sub_mul_left_left _ _ _
theorem gcd_zero {a : Int} (h : 0 ≤ a) : ((Int.gcd a 0 : Nat) : Int) = a := by
  rw [Int.gcd_zero_right]; omega
theorem gcd_le_right {a b : Int} (hb : b ≠ 0) : Int.gcd a b ≤ b.natAbs := Nat.le_of_dvd (by omega) (Int.gcd_dvd_natAbs_right a b)
theorem gcd_pos_right {a b : Int} (hb : b ≠ 0) : 0 < Int.gcd a b := Int.gcd_pos_of_ne_zero_right a hb
theorem fr_num {t b : Int} (hb : b ≠ 0) : t.fdiv (if b < 0 then -((Int.gcd t b : Nat) : Int) else ((Int.gcd t b : Nat) : Int)) = (Rat.divInt t b).num := by
  rw [Rat.num_divInt, Int.gcd_comm b t]
  have hg : (0 : Int) < ((Int.gcd t b : Nat) : Int) := by have := gcd_pos_right (a := t) hb; omega
  have hd : ((Int.gcd t b : Nat) : Int) ∣ t := Int.gcd_dvd_left t b
  split
  · rename_i hn
    rw [Int.sign_eq_neg_one_of_neg hn]
    obtain ⟨k, hk⟩ := hd
    generalize ((Int.gcd t b : Nat) : Int) = g at hg hk
    subst hk
    rw [show -1 * (g * k) = g * (-k) by grind, Int.mul_ediv_cancel_left _ (by omega)]
    rw [show g * k = (-g) * (-k) by grind]
    exact Int.mul_fdiv_cancel_left _ (by omega)
  · rename_i hn
    rw [Int.sign_eq_one_of_pos (by omega), Int.one_mul, Int.fdiv_eq_ediv_of_nonneg _ (by omega)]
theorem fr_den {t b : Int} (hb : b ≠ 0) : b.fdiv (if b < 0 then -((Int.gcd t b : Nat) : Int) else ((Int.gcd t b : Nat) : Int)) = (((Rat.divInt t b).den : Nat) : Int) := by
  rw [Rat.den_divInt, if_neg hb, Int.gcd_comm b t]
  have hg : (0 : Int) < ((Int.gcd t b : Nat) : Int) := by have := gcd_pos_right (a := t) hb; omega
  have hd : ((Int.gcd t b : Nat) : Int) ∣ b := Int.gcd_dvd_right t b
  rw [Int.natCast_ediv]
  split
  · rename_i hn
    rw [show ((b.natAbs : Nat) : Int) = -b by omega]
    obtain ⟨k, hk⟩ := hd
    generalize ((Int.gcd t b : Nat) : Int) = g at hg hk
    subst hk
    rw [show -(g * k) = g * (-k) by grind, Int.mul_ediv_cancel_left _ (by omega)]
    rw [show g * k = (-g) * (-k) by grind]
    exact Int.mul_fdiv_cancel_left _ (by omega)
  · rename_i hn
    rw [show ((b.natAbs : Nat) : Int) = b by omega, Int.fdiv_eq_ediv_of_nonneg _ (by omega)]
theorem add_parts (a b : Rat) (s : Nat) (hs : s = a.den.gcd b.den) (tp : Int) (ht : tp = a.num * ((b.den / s : Nat) : Int) + b.num * ((a.den / s : Nat) : Int)) (g : Nat) (hg : g = s.gcd tp.natAbs) :
    (a + b).num = tp / (g : Int) ∧ (a + b).den = a.den / s * (b.den / g) := by
  have hs0 : 0 < s := by rw [hs]; exact Nat.gcd_pos_of_pos_left _ (Nat.pos_of_ne_zero a.den_nz)
  have hg0 : 0 < g := by rw [hg]; exact Nat.gcd_pos_of_pos_left _ hs0
  have hgs : g ∣ s := by rw [hg]; exact Nat.gcd_dvd_left _ _
  have hsb : s ∣ b.den := by rw [hs]; exact Nat.gcd_dvd_right _ _
  have hgb : g ∣ b.den := Nat.dvd_trans hgs hsb
  have e : a.den / s * (b.den / g) = a.den / s * b.den / g := (Nat.mul_div_assoc _ hgb).symm
  rw [e]
  show (Rat.add a b).num = _ ∧ (Rat.add a b).den = _
  unfold Rat.add
  simp only [← hs]
  split
  · rename_i h1
    have : g = 1 := by rw [hg, h1]; exact Nat.gcd_one_left _
    subst this
    dsimp only
    rw [ht, h1]
    simp
  · rename_i h1
    simp only [Rat.maybeNormalize_eq]
    have hg2 : (a.num * ((b.den / s : Nat) : Int) + b.num * ((a.den / s : Nat) : Int)).natAbs.gcd s = g := by rw [hg, ← ht, Nat.gcd_comm]
    have hd : (g : Int) ∣ tp := by
      rw [hg]
      exact Int.ofNat_dvd_left.mpr (Nat.gcd_dvd_right _ _)
    constructor
    · rw [Int.divExact_eq_tdiv, hg2, ← ht, Int.tdiv_eq_ediv_of_dvd hd]
    · rw [hg2]
theorem mul_parts (a b : Rat) : (a * b).num = (Rat.divInt a.num (b.den : Int)).num * (Rat.divInt b.num (a.den : Int)).num ∧ (a * b).den = (Rat.divInt a.num (b.den : Int)).den * (Rat.divInt b.num (a.den : Int)).den := by
  show (Rat.mul a b).num = _ ∧ (Rat.mul a b).den = _
  have ha : (a.den : Int) ≠ 0 := by have := a.den_nz; omega
  have hb : (b.den : Int) ≠ 0 := by have := b.den_nz; omega
  rw [Rat.num_divInt, Rat.num_divInt, Rat.den_divInt, Rat.den_divInt, if_neg ha, if_neg hb]
  have e1 : ((b.den : Nat) : Int).sign = 1 := Int.sign_eq_one_of_pos (by have := b.den_nz; omega)
  have e2 : ((a.den : Nat) : Int).sign = 1 := Int.sign_eq_one_of_pos (by have := a.den_nz; omega)
  rw [e1, e2, Int.one_mul, Int.one_mul]
  unfold Rat.mul
  dsimp only
  have g1 : Int.gcd ((b.den : Nat) : Int) a.num = a.num.natAbs.gcd b.den := by rw [Int.gcd_comm]; rfl
  have g2 : Int.gcd ((a.den : Nat) : Int) b.num = b.num.natAbs.gcd a.den := by rw [Int.gcd_comm]; rfl
  rw [g1, g2]
  constructor
  · rw [Int.divExact_eq_tdiv, Int.divExact_eq_tdiv, Int.tdiv_eq_ediv_of_dvd (Int.ofNat_dvd_left.mpr (Nat.gcd_dvd_left _ _)), Int.tdiv_eq_ediv_of_dvd (Int.ofNat_dvd_left.mpr (Nat.gcd_dvd_left _ _))]
  · rw [Nat.mul_comm]; rfl
theorem mk_div (n : Int) (d : Int) (hd : d ≠ 0) : Rat.divInt n d = (n : Rat) / (d : Rat) := Rat.divInt_eq_div n d
theorem div_inv (b : Rat) : Rat.divInt (b.den : Int) b.num = b⁻¹ := (Rat.inv_def b).symm
theorem less_iff (a b : Rat) : (a.num * (b.den : Int) < b.num * (a.den : Int)) ↔ a < b := (Rat.lt_iff a b).symm
theorem lowest (q : Rat) : Int.gcd q.num (q.den : Int) = 1 := q.reduced
theorem den_pos (q : Rat) : (1 : Int) ≤ (q.den : Int) := by have := q.den_nz; omega
theorem cross (t b : Int) (hb : b ≠ 0) : (Rat.divInt t b).num * b = t * ((Rat.divInt t b).den : Int) := by
  have h := Rat.num_divInt_den (Rat.divInt t b)
  exact (Rat.divInt_eq_divInt_iff (by have := (Rat.divInt t b).den_nz; omega) hb).mp h
theorem num_le (t : Int) {b : Int} (hb : b ≠ 0) : (Rat.divInt t b).num.natAbs ≤ t.natAbs := by
  have h := cross t b hb
  have h2 := Fm.den_pos (Rat.divInt t b)
  rw [← fr_num hb]
  have hg : (0 : Int) < ((Int.gcd t b : Nat) : Int) := by have := gcd_pos_right (a := t) hb; omega
  obtain ⟨k, hk⟩ : ((Int.gcd t b : Nat) : Int) ∣ t := Int.gcd_dvd_left t b
  generalize ((Int.gcd t b : Nat) : Int) = g at hg hk
  subst hk
  have le : k.natAbs ≤ (g * k).natAbs := by
    rw [Int.natAbs_mul]
    exact Nat.le_mul_of_pos_left _ (by omega)
  split
  · rw [show g * k = (-g) * (-k) by grind, Int.mul_fdiv_cancel_left _ (by omega)]
    rw [show (-g) * (-k) = g * k by grind]
    omega
  · rw [Int.mul_fdiv_cancel_left _ (by omega)]
    exact le
theorem den_le (t : Int) {b : Int} (hb : b ≠ 0) : (Rat.divInt t b).den ≤ b.natAbs := by
  rw [Rat.den_divInt, if_neg hb]
  exact Nat.div_le_self _ _
theorem num_eq (q : Rat) : (q.num : Rat) = q * (q.den : Rat) := by
  have h := Rat.num_divInt_den q
  rw [Rat.divInt_eq_div] at h
  have hd : ((q.den : Int) : Rat) ≠ 0 := by
    have := q.den_nz
    intro z
    rw [Rat.intCast_natCast] at z
    exact this (by simpa using z)
  rw [Rat.intCast_natCast] at h hd
  have h2 := Rat.div_mul_cancel (a := (q.num : Rat)) hd
  rw [h] at h2
  exact h2.symm
theorem eq_divInt {q : Rat} {n m : Int} (hm : m ≠ 0) (h : q * (m : Rat) = (n : Rat)) : q = Rat.divInt n m := by
  rw [Rat.divInt_eq_div, ← h]
  have : (m : Rat) ≠ 0 := by simpa using hm
  exact (Rat.mul_div_cancel this).symm
theorem size_of {q : Rat} {n m : Int} (hm : m ≠ 0) (h : q * (m : Rat) = (n : Rat)) : q.num.natAbs ≤ n.natAbs ∧ q.den ≤ m.natAbs := by
  rw [eq_divInt hm h]
  exact ⟨num_le n hm, den_le n hm⟩
structure Sz (N : Nat) (q : Rat) : Prop where
  n : q.num.natAbs ≤ N
  d : q.den ≤ N
theorem Sz.mono {M N : Nat} {q : Rat} (h : Sz M q) (l : M ≤ N) : Sz N q := ⟨Nat.le_trans h.n l, Nat.le_trans h.d l⟩
theorem Sz.neg {N : Nat} {q : Rat} (h : Sz N q) : Sz N (-q) := ⟨by show (-q.num).natAbs ≤ N; rw [Int.natAbs_neg]; exact h.n, h.d⟩
theorem sz_cross (a b : Rat) (f : Rat) (n : Int) (h : f * ((a.den : Int) * (b.den : Int) : Int) = (n : Rat)) {M N : Nat} (ha : Sz M a) (hb : Sz N b) (hn : n.natAbs ≤ 2 * (M * N)) : Sz (2 * (M * N)) f := by
  have m0 : (a.den : Int) * (b.den : Int) ≠ 0 := Int.mul_ne_zero (by have := a.den_nz; omega) (by have := b.den_nz; omega)
  obtain ⟨h1, h2⟩ := size_of m0 h
  refine ⟨Nat.le_trans h1 hn, Nat.le_trans h2 ?_⟩
  rw [Int.natAbs_mul]
  have := Nat.mul_le_mul ha.d hb.d
  simp only [Int.natAbs_natCast]
  omega
theorem Sz.add {a b : Rat} {M N : Nat} (ha : Sz M a) (hb : Sz N b) : Sz (2 * (M * N)) (a + b) := by
  refine sz_cross a b _ (a.num * (b.den : Int) + b.num * (a.den : Int)) ?_ ha hb ?_
  · rw [Rat.intCast_mul, Rat.intCast_add, Rat.intCast_mul, Rat.intCast_mul, Rat.intCast_natCast, Rat.intCast_natCast, num_eq a, num_eq b]
    grind
  · have h1 := Nat.mul_le_mul ha.n hb.d
    have h2 := Nat.mul_le_mul hb.n ha.d
    have h3 := Int.natAbs_add_le (a.num * (b.den : Int)) (b.num * (a.den : Int))
    rw [Int.natAbs_mul, Int.natAbs_mul, Int.natAbs_natCast, Int.natAbs_natCast] at h3
    rw [Nat.mul_comm N M] at h2
    omega
theorem Sz.sub {a b : Rat} {M N : Nat} (ha : Sz M a) (hb : Sz N b) : Sz (2 * (M * N)) (a - b) := by
  rw [Rat.sub_eq_add_neg]
  exact ha.add hb.neg
theorem Sz.mul {a b : Rat} {M N : Nat} (ha : Sz M a) (hb : Sz N b) : Sz (2 * (M * N)) (a * b) := by
  refine sz_cross a b _ (a.num * b.num) ?_ ha hb ?_
  · rw [Rat.intCast_mul, Rat.intCast_mul, Rat.intCast_natCast, Rat.intCast_natCast, num_eq a, num_eq b]
    grind
  · have h1 := Nat.mul_le_mul ha.n hb.n
    rw [Int.natAbs_mul]
    omega
end Fm
namespace Fm
theorem den_dvd (t : Int) {b : Int} (hb : b ≠ 0) : (Rat.divInt t b).den ∣ b.natAbs := by
  have h := congrArg Int.natAbs (cross t b hb)
  rw [Int.natAbs_mul, Int.natAbs_mul] at h
  have h2 : (Rat.divInt t b).den ∣ (Rat.divInt t b).num.natAbs * b.natAbs := ⟨t.natAbs, by rw [h, Nat.mul_comm]; simp⟩
  have h3 : Nat.Coprime (Rat.divInt t b).den (Rat.divInt t b).num.natAbs := Nat.Coprime.symm (Rat.divInt t b).reduced
  exact h3.dvd_of_dvd_mul_left h2
theorem den_of {q : Rat} {n : Int} {L : Nat} (hL : L ≠ 0) (h : q * (L : Rat) = (n : Rat)) : q.den ∣ L := by
  have e : q = Rat.divInt n (L : Int) := eq_divInt (by omega) (by rw [Rat.intCast_natCast]; exact h)
  rw [e]
  have := den_dvd n (b := (L : Int)) (by omega)
  simpa using this
theorem top_of {q : Rat} {L : Nat} (h : q.den ∣ L) : q * (L : Rat) = ((q.num * ((L / q.den : Nat) : Int) : Int) : Rat) := by
  obtain ⟨c, rfl⟩ := h
  have hd : 0 < q.den := Nat.pos_of_ne_zero q.den_nz
  rw [Nat.mul_div_cancel_left _ hd, Rat.intCast_mul, num_eq q, Rat.natCast_mul, Rat.intCast_natCast]
  grind
structure Cm (L B : Nat) (q : Rat) : Prop where
  d : q.den ∣ L
  lo : -(B : Rat) ≤ q
  hi : q ≤ (B : Rat)
theorem cast_le {a b : Nat} (h : a ≤ b) : (a : Rat) ≤ (b : Rat) := by
  rw [← Rat.intCast_natCast, ← Rat.intCast_natCast]
  exact Rat.intCast_le_intCast.mpr (by omega)
theorem cast_nn (a : Nat) : (0 : Rat) ≤ (a : Rat) := cast_le (Nat.zero_le a)
theorem Cm.mono {L B L' B' : Nat} {q : Rat} (h : Cm L B q) (hl : L ∣ L') (hb : B ≤ B') : Cm L' B' q := by
  have := cast_le hb
  exact ⟨Nat.dvd_trans h.d hl, by have := h.lo; grind, by have := h.hi; grind⟩
theorem Cm.neg {L B : Nat} {q : Rat} (h : Cm L B q) : Cm L B (-q) := ⟨h.d, by have := h.hi; grind, by have := h.lo; grind⟩
theorem Cm.add {L B C : Nat} {p q : Rat} (hp : Cm L B p) (hq : Cm L C q) : Cm L (B + C) (p + q) := by
  refine ⟨?_, ?_, ?_⟩
  · by_cases hL : L = 0
    · rw [hL]; exact Nat.dvd_zero _
    · refine den_of hL (n := p.num * ((L / p.den : Nat) : Int) + q.num * ((L / q.den : Nat) : Int)) ?_
      rw [Rat.intCast_add, ← top_of hp.d, ← top_of hq.d]
      grind
  · rw [Rat.natCast_add]; have := hp.lo; have := hq.lo; grind
  · rw [Rat.natCast_add]; have := hp.hi; have := hq.hi; grind
theorem Cm.sub {L B C : Nat} {p q : Rat} (hp : Cm L B p) (hq : Cm L C q) : Cm L (B + C) (p - q) := by
  rw [Rat.sub_eq_add_neg]; exact hp.add hq.neg
theorem mul_bd {a b B C : Rat} (h1 : -B ≤ a) (h2 : a ≤ B) (h3 : -C ≤ b) (h4 : b ≤ C) : a * b ≤ B * C ∧ -(B * C) ≤ a * b := by
  have k1 : 0 ≤ (B - a) * (C + b) := Rat.mul_nonneg (by grind) (by grind)
  have k2 : 0 ≤ (B + a) * (C - b) := Rat.mul_nonneg (by grind) (by grind)
  have k3 : 0 ≤ (B - a) * (C - b) := Rat.mul_nonneg (by grind) (by grind)
  have k4 : 0 ≤ (B + a) * (C + b) := Rat.mul_nonneg (by grind) (by grind)
  constructor <;> grind
theorem Cm.mul {L B M C : Nat} {p q : Rat} (hp : Cm L B p) (hq : Cm M C q) : Cm (L * M) (B * C) (p * q) := by
  refine ⟨?_, ?_, ?_⟩
  · by_cases hL : L * M = 0
    · rw [hL]; exact Nat.dvd_zero _
    · refine den_of hL (n := (p.num * ((L / p.den : Nat) : Int)) * (q.num * ((M / q.den : Nat) : Int))) ?_
      rw [Rat.intCast_mul, ← top_of hp.d, ← top_of hq.d, Rat.natCast_mul]
      grind
  · rw [Rat.natCast_mul]; exact (mul_bd hp.lo hp.hi hq.lo hq.hi).2
  · rw [Rat.natCast_mul]; exact (mul_bd hp.lo hp.hi hq.lo hq.hi).1
theorem Cm.int {i : Int} {B : Nat} (h : i.natAbs ≤ B) : Cm 1 B (i : Rat) := by
  refine ⟨by simp, ?_, ?_⟩
  · rw [← Rat.intCast_natCast, ← Rat.intCast_neg]; exact Rat.intCast_le_intCast.mpr (by omega)
  · rw [← Rat.intCast_natCast]; exact Rat.intCast_le_intCast.mpr (by omega)
theorem Cm.zero {L B : Nat} : Cm L B 0 := by
  have := cast_nn B
  exact ⟨by simp, by grind, this⟩
theorem Cm.num {L B : Nat} {q : Rat} (h : Cm L B q) : q.num.natAbs ≤ B * q.den := by
  have hd : (0 : Rat) ≤ (q.den : Rat) := cast_nn _
  have e := num_eq q
  have h1 : (q.num : Rat) ≤ ((B * q.den : Nat) : Rat) := by
    rw [e, Rat.natCast_mul]; exact Rat.mul_le_mul_of_nonneg_right h.hi hd
  have h2 : -((B * q.den : Nat) : Rat) ≤ (q.num : Rat) := by
    rw [e, Rat.natCast_mul, ← Rat.neg_mul]; exact Rat.mul_le_mul_of_nonneg_right h.lo hd
  rw [← Rat.intCast_natCast] at h1 h2
  rw [← Rat.intCast_neg] at h2
  have h3 := Rat.intCast_le_intCast.mp h1
  have h4 := Rat.intCast_le_intCast.mp h2
  omega
theorem Cm.den {L B : Nat} {q : Rat} (h : Cm L B q) (hL : 0 < L) : q.den ≤ L := Nat.le_of_dvd hL h.d
theorem Cm.sz {L B : Nat} {q : Rat} (h : Cm L B q) (hL : 0 < L) : Sz ((B + 1) * L) q := by
  have h1 := h.num
  have h2 := h.den hL
  have h3 : B * q.den ≤ B * L := Nat.mul_le_mul_left _ h2
  have h4 : (B + 1) * L = B * L + L := by rw [Nat.add_mul, Nat.one_mul]
  exact ⟨by omega, by omega⟩
theorem Cm.of {q : Rat} {L B : Nat} (hd : q.den ∣ L) (hn : q.num.natAbs ≤ B * q.den) : Cm L B q := by
  have hp : (0 : Rat) < (q.den : Rat) := by
    rw [← Rat.intCast_natCast]; exact Rat.intCast_pos.mpr (by have := q.den_nz; omega)
  have e := num_eq q
  have h1 : (q.num : Rat) ≤ (B : Rat) * (q.den : Rat) := by
    rw [← Rat.natCast_mul, ← Rat.intCast_natCast]; exact Rat.intCast_le_intCast.mpr (by omega)
  have h2 : -((B : Rat) * (q.den : Rat)) ≤ (q.num : Rat) := by
    rw [← Rat.natCast_mul, ← Rat.intCast_natCast, ← Rat.intCast_neg]; exact Rat.intCast_le_intCast.mpr (by omega)
  rw [e] at h1 h2
  refine ⟨hd, ?_, ?_⟩
  · refine Rat.not_lt.mp fun c => ?_
    have := Rat.mul_lt_mul_of_pos_right c hp
    rw [Rat.neg_mul] at this
    grind
  · refine Rat.not_lt.mp fun c => ?_
    have := Rat.mul_lt_mul_of_pos_right c hp
    grind
theorem Cm.div {t : Int} {b L B : Nat} (hb : 0 < b) (hd : b ∣ L) (ht : t.natAbs ≤ B * b) : Cm L B (Rat.divInt t (b : Int)) := by
  have h1 := den_dvd t (b := (b : Int)) (by omega)
  have hc := cross t (b : Int) (by omega)
  refine Cm.of (Nat.dvd_trans (by simpa using h1) hd) ?_
  have h2 : (Rat.divInt t (b : Int)).num.natAbs * b = t.natAbs * (Rat.divInt t (b : Int)).den := by
    have := congrArg Int.natAbs hc
    rw [Int.natAbs_mul, Int.natAbs_mul] at this
    simpa using this
  refine Nat.le_of_mul_le_mul_right ?_ hb
  rw [h2]
  calc t.natAbs * (Rat.divInt t (b : Int)).den ≤ (B * b) * (Rat.divInt t (b : Int)).den := Nat.mul_le_mul_right _ ht
    _ = B * (Rat.divInt t (b : Int)).den * b := by rw [Nat.mul_assoc, Nat.mul_comm b, Nat.mul_assoc]
noncomputable def Dg (n : Nat) (q : Rat) : Prop := Sz (10 ^ n) q
theorem ten_le {a b : Nat} (h : a ≤ b) : 10 ^ a ≤ 10 ^ b := Nat.pow_le_pow_right (by decide) h
theorem ten_two (a b : Nat) : 2 * (10 ^ a * 10 ^ b) ≤ 10 ^ (a + b + 1) := by
  rw [Nat.pow_succ, Nat.pow_add]
  omega
theorem Dg.mono {a b : Nat} {q : Rat} (h : Dg a q) (l : a ≤ b) : Dg b q := Sz.mono h (ten_le l)
theorem Dg.add {a b : Nat} {p q : Rat} (hp : Dg a p) (hq : Dg b q) : Dg (a + b + 1) (p + q) := (Sz.add hp hq).mono (ten_two a b)
theorem Dg.sub {a b : Nat} {p q : Rat} (hp : Dg a p) (hq : Dg b q) : Dg (a + b + 1) (p - q) := (Sz.sub hp hq).mono (ten_two a b)
theorem Dg.mul {a b : Nat} {p q : Rat} (hp : Dg a p) (hq : Dg b q) : Dg (a + b + 1) (p * q) := (Sz.mul hp hq).mono (ten_two a b)
theorem Dg.neg {a : Nat} {p : Rat} (hp : Dg a p) : Dg a (-p) := Sz.neg hp
theorem Dg.of {n : Nat} {t b : Int} (hb : b ≠ 0) (h1 : t.natAbs ≤ 10 ^ n) (h2 : b.natAbs ≤ 10 ^ n) : Dg n (Rat.divInt t b) := ⟨Nat.le_trans (num_le t hb) h1, Nat.le_trans (den_le t hb) h2⟩
theorem Dg.zero {n : Nat} : Dg n 0 := ⟨Nat.zero_le _, Nat.pow_pos (n := n) (by decide)⟩
theorem Dg.one {n : Nat} : Dg n 1 := ⟨Nat.pow_pos (n := n) (by decide), Nat.pow_pos (n := n) (by decide)⟩
theorem Dg.int {n : Nat} {i : Int} (h : i.natAbs ≤ 10 ^ n) : Dg n (i : Rat) := ⟨h, Nat.pow_pos (n := n) (by decide)⟩
noncomputable def absR (q : Rat) : Rat := ⟨(q.num.natAbs : Int), q.den, q.den_nz, by simpa using q.reduced⟩
theorem absR_num (q : Rat) : (absR q).num = ((q.num.natAbs : Nat) : Int) := rfl
theorem absR_pos {q : Rat} (h : 0 ≤ q) : absR q = q := by
  have := Rat.num_nonneg.mpr h
  exact Rat.ext (by rw [absR_num]; omega) rfl
theorem absR_neg {q : Rat} (h : q ≤ 0) : absR q = -q := by
  have h1 : 0 ≤ -q := by grind
  have := Rat.num_nonneg.mpr h1
  exact Rat.ext (by rw [absR_num]; show _ = -q.num; have e : (-q).num = -q.num := rfl; omega) rfl
theorem absR_nn (q : Rat) : 0 ≤ absR q := Rat.num_nonneg.mp (by rw [absR_num]; omega)
theorem absR_cases (q : Rat) : (0 ≤ q ∧ absR q = q) ∨ (q ≤ 0 ∧ absR q = -q) := by
  rcases Rat.le_total (a := 0) (b := q) with h | h
  · exact .inl ⟨h, absR_pos h⟩
  · exact .inr ⟨h, absR_neg h⟩
theorem Cm.abs {L B : Nat} {q : Rat} (h : Cm L B q) : Cm L B (absR q) := by
  rcases absR_cases q with ⟨_, e⟩ | ⟨_, e⟩
  · rw [e]; exact h
  · rw [e]; exact h.neg
theorem Dg.abs {n : Nat} {q : Rat} (h : Dg n q) : Dg n (absR q) := ⟨by rw [absR_num]; exact h.n, h.d⟩
theorem Cm.dg {L B l b : Nat} {q : Rat} (h : Cm L B q) (hL : 0 < L) (h1 : L ≤ 10 ^ l) (h2 : B ≤ 10 ^ b) : Dg (b + l + 1) q := by
  refine (h.sz hL).mono ?_
  have e : (B + 1) * L ≤ (10 ^ b + 10 ^ b) * 10 ^ l := Nat.mul_le_mul (by have := Nat.pow_pos (n := b) (show 0 < 10 by decide); omega) h1
  have := ten_two b l
  rw [Nat.add_mul (10 ^ b)] at e
  omega
end Fm
namespace Dl
open PySem PySem.Spec PyProof.Rows L2 Lx
inductive Sl where
  | dat (d : PyData)
  | own (ds : List PyData)
    | exc (C : Addr)
    | two (xs ys : List PyData)
    | fz (as : List Addr) (d : PyData)
noncomputable abbrev DEn := List (Option Sl)
noncomputable def slot : DEn → Nat → Option Sl
  | [], _ => none
  | x :: _, 0 => x
  | _ :: xs, n + 1 => slot xs n
noncomputable def put (s : Option Sl) : Nat → DEn → DEn
  | _, [] => []
  | 0, _ :: xs => s :: xs
  | n + 1, x :: xs => x :: put s n xs
theorem slot_put (s : Option Sl) : ∀ (i j : Nat) (δ : DEn), slot (put s i δ) j = if j = i ∧ i < δ.length then s else slot δ j
  | i, j, [] => by cases i <;> simp [put, slot]
  | 0, 0, x :: xs => by simp [put, slot]
  | 0, j + 1, x :: xs => by simp [put, slot]
  | i + 1, 0, x :: xs => by simp [put, slot]
  | i + 1, j + 1, x :: xs => by
    have := slot_put s i j xs
    simp only [put, slot, this, List.length_cons]
    simp
theorem put_len (s : Option Sl) : ∀ (i : Nat) (δ : DEn), (put s i δ).length = δ.length
  | i, [] => by cases i <;> rfl
  | 0, x :: xs => rfl
  | i + 1, x :: xs => by simp [put, put_len s i xs]
theorem sqT_same {K : PySem.W.Frag} {H H' : Hp} {a : Addr} {xs : List V} (e : Same H H') (h : SqT K H a xs) : SqT K H' a xs := by
  rcases h with (h | ⟨o, h⟩) | h
  · exact .inl (.inl (e _ _ h))
  · exact .inl (.inr ⟨o, e _ _ h⟩)
  · exact .inr h
mutual
theorem dv_same {K : PySem.W.Frag} {H H' : Hp} (s : Same H H') : ∀ {x : V} {d : PyData}, DV K H x d → DV K H' x d
  | _, _, .non => .non
  | _, _, .bl b => .bl b
  | _, _, .int i => .int i
  | _, _, .str x => .str x
  | _, _, .tup h hs => .tup (sqT_same s h) (dvs_same s hs)
  | _, _, .lst h hs => .lst (s.seq h) (dvs_same s hs)
  | _, _, .dct h => .dct (s _ _ h)
theorem dvs_same {K : PySem.W.Frag} {H H' : Hp} (s : Same H H') : ∀ {xs : List V} {ds : List PyData}, DVs K H xs ds → DVs K H' xs ds
  | _, _, .nil => .nil
  | _, _, .cons h t => .cons (dv_same s h) (dvs_same s t)
end
mutual
noncomputable def flatD : PyData → Bool
  | .none => true
  | .bool _ => true
  | .int _ => true
  | .str _ => true
  | .list _ => false
  | .tuple ds => flatDs ds
  | .dict _ => true
noncomputable def flatDs : List PyData → Bool
  | [] => true
  | d :: ds => flatD d && flatDs ds
end
noncomputable def Sub (G H : Hp) : Prop := ∀ b, G b = H b ∨ (G b = none ∧ ∃ xs, H b = some (.lst xs))
theorem Sub.same {G H : Hp} (s : Sub G H) : Same G H := fun b o e => by
  rcases s b with h | ⟨h, _⟩
  · rw [← h]; exact e
  · rw [h] at e; cases e
theorem Sub.refl (H : Hp) : Sub H H := fun _ => .inl rfl
theorem Sub.other {G H : Hp} (s : Sub G H) {b : Addr} {o : HO} (h : H b = some o) (n : ∀ xs, o ≠ .lst xs) : G b = some o := by
  rcases s b with e | ⟨_, xs, e⟩
  · rw [e]; exact h
  · rw [h] at e; cases e; exact absurd rfl (n xs)
mutual
theorem dv_flat {K : PySem.W.Frag} {G H : Hp} (s : ∀ b o, H b = some o → (∀ xs, o ≠ .lst xs) → G b = some o) : ∀ {x : V} {d : PyData}, DV K H x d → flatD d = true → DV K G x d
  | _, _, .non, _ => .non
  | _, _, .bl b, _ => .bl b
  | _, _, .int i, _ => .int i
  | _, _, .str x, _ => .str x
  | _, _, .tup h hs, f => .tup (by
      rcases h with (h | ⟨o, h⟩) | h
      · exact .inl (.inl (s _ _ h (by intro xs z; cases z)))
      · exact .inl (.inr ⟨o, s _ _ h (by intro xs z; cases z)⟩)
      · exact .inr h) (dvs_flat s hs f)
  | _, _, .lst _ _, f => by cases f
  | _, _, .dct h, _ => .dct (s _ _ h (by intro xs z; cases z))
theorem dvs_flat {K : PySem.W.Frag} {G H : Hp} (s : ∀ b o, H b = some o → (∀ xs, o ≠ .lst xs) → G b = some o) : ∀ {xs : List V} {ds : List PyData}, DVs K H xs ds → flatDs ds = true → DVs K G xs ds
  | _, _, .nil, _ => .nil
  | _, _, .cons h t, f => by
    simp only [flatDs, Bool.and_eq_true] at f
    exact .cons (dv_flat s h f.1) (dvs_flat s t f.2)
end
end Dl
namespace Lx
open PySem PySem.Spec PyProof.Rows L2
theorem DVs.len {K : PySem.W.Frag} {H : Hp} : ∀ {xs : List V} {ds : List PyData}, DVs K H xs ds → xs.length = ds.length
  | _, _, .nil => rfl
  | _, _, .cons _ t => congrArg (· + 1) (DVs.len t)
theorem DVs.at {K : PySem.W.Frag} {H : Hp} : ∀ {xs : List V} {ds : List PyData} {i : Nat} {d : PyData}, DVs K H xs ds → ds[i]? = some d → ∃ x, xs[i]? = some x ∧ DV K H x d
  | _, _, _, _, .nil, e => by simp at e
  | _, _, 0, _, .cons h _, e => by
    simp at e
    subst e
    exact ⟨_, rfl, h⟩
  | _, _, i + 1, _, .cons _ t, e => by
    obtain ⟨x, h1, h2⟩ := DVs.at (i := i) t (by simpa using e)
    exact ⟨x, by simpa using h1, h2⟩
theorem DVs.at' {K : PySem.W.Frag} {H : Hp} {xs : List V} {ds : List PyData} {i : Nat} {x : V} (h : DVs K H xs ds) (e : xs[i]? = some x) : ∃ d, ds[i]? = some d ∧ DV K H x d := by
  have hi : i < ds.length := by rw [← h.len]; exact (List.getElem?_eq_some_iff.mp e).1
  obtain ⟨y, h1, h2⟩ := h.at (List.getElem?_eq_getElem hi)
  rw [e] at h1; cases h1
  exact ⟨_, List.getElem?_eq_getElem hi, h2⟩
theorem DVs.append {K : PySem.W.Frag} {H : Hp} : ∀ {xs ys : List V} {ds es : List PyData}, DVs K H xs ds → DVs K H ys es → DVs K H (xs ++ ys) (ds ++ es)
  | _, _, _, _, .nil, h => h
  | _, _, _, _, .cons r t, h => .cons r (DVs.append t h)
theorem DVs.take {K : PySem.W.Frag} {H : Hp} : ∀ {xs : List V} {ds : List PyData} (n : Nat), DVs K H xs ds → DVs K H (xs.take n) (ds.take n)
  | _, _, 0, _ => by simp only [List.take_zero]; exact .nil
  | _, _, _ + 1, .nil => .nil
  | _, _, n + 1, .cons r t => .cons r (DVs.take n t)
theorem DVs.drop {K : PySem.W.Frag} {H : Hp} : ∀ {xs : List V} {ds : List PyData} (n : Nat), DVs K H xs ds → DVs K H (xs.drop n) (ds.drop n)
  | _, _, 0, h => by simp only [List.drop_zero]; exact h
  | _, _, _ + 1, .nil => .nil
  | _, _, n + 1, .cons _ t => DVs.drop n t
theorem DVs.set {K : PySem.W.Frag} {H : Hp} {x : V} {d : PyData} (r : DV K H x d) : ∀ {xs : List V} {ds : List PyData} (i : Nat), DVs K H xs ds → DVs K H (xs.set i x) (ds.set i d)
  | _, _, _, .nil => .nil
  | _, _, 0, .cons _ t => .cons r t
  | _, _, i + 1, .cons q t => .cons q (DVs.set r i t)
end Lx
namespace Dl
open PySem PySem.Spec PyProof.Rows L2 Lx
inductive FzIs (K : PySem.W.Frag) (G : Hp) : V → List Addr → PyData → Prop
  | pair {t a b : Addr} {vs ws : List V} {xs ys : List PyData} : SqT K G t [.ref a, .ref b] → a ≠ b → G a = some (.lst vs) → G b = some (.lst ws) → DVs K G vs xs → DVs K G ws ys → FzIs K G (.ref t) [a, b] (.tuple [.list xs, .list ys])
  | one {a : Addr} {vs : List V} {ds : List PyData} : G a = some (.lst vs) → DVs K G vs ds → FzIs K G (.ref a) [a] (.list ds)
theorem FzIs.same {K : PySem.W.Frag} {G G' : Hp} {v : V} {as : List Addr} {d : PyData} (s : Same G G') (h : FzIs K G v as d) : FzIs K G' v as d := by
  cases h with
  | pair h1 h2 h3 h4 h5 h6 => exact .pair (sqT_same s h1) h2 (s _ _ h3) (s _ _ h4) (dvs_same s h5) (dvs_same s h6)
  | one h1 h2 => exact .one (s _ _ h1) (dvs_same s h2)
theorem FzIs.dv {K : PySem.W.Frag} {G : Hp} {v : V} {as : List Addr} {d : PyData} (h : FzIs K G v as d) : DV K G v d := by
  cases h with
  | pair h1 h2 h3 h4 h5 h6 => exact .tup h1 (.cons (.lst (SqL.of h3) h5) (.cons (.lst (SqL.of h4) h6) .nil))
  | one h1 h2 => exact .lst (SqL.of h1) h2
noncomputable def SlIs (K : PySem.W.Frag) (G H : Hp) (v : V) : Sl → Prop
  | .dat d => DV K G v d
  | .own ds => ∃ a vs, v = .ref a ∧ G a = none ∧ H a = some (.lst vs) ∧ DVs K G vs ds
  | .exc C => ∃ x, v = .ref x ∧ G x = some (.ext (IsExc x C))
  | .two _ _ => False
  | .fz as d => FzIs K G v as d
structure Sees (K : PySem.W.Frag) (H₀ G : Hp) (δ : DEn) (σ : L2.St) (H : Hp) : Prop where
  old : Same H₀ G
  sub : Sub G H
  len : δ.length ≤ σ.length
  has : ∀ i s, slot δ i = some s → ∃ v, σ[i]? = some (some v) ∧ SlIs K G H v s
  sep : ∀ i j xs ys a, slot δ i = some (.own xs) → slot δ j = some (.own ys) → σ[i]? = some (some (.ref a)) → σ[j]? = some (some (.ref a)) → i = j
structure Ext (G H G' H' : Hp) : Prop where
  g : Same G G'
  h : Same H H'
  s : Sub G' H'
  n : ∀ b o, G' b = some o → G b = some o ∨ H b = none
theorem Ext.refl {G H : Hp} (s : Sub G H) : Ext G H G H := ⟨Same.refl _, Same.refl _, s, fun _ _ h => .inl h⟩
theorem Ext.trans {G H G1 H1 G2 H2 : Hp} (a : Ext G H G1 H1) (b : Ext G1 H1 G2 H2) : Ext G H G2 H2 :=
  ⟨a.g.trans b.g, a.h.trans b.h, b.s, fun c o h => by
    rcases b.n c o h with z | z
    · exact a.n c o z
    · exact .inr (a.h.free z)⟩
theorem Ext.keep {G H G' H' : Hp} (e : Ext G H G' H') {a : Addr} (hg : G a = none) {o : HO} (hh : H a = some o) : G' a = none := by
  cases q : G' a with
  | none => rfl
  | some u =>
    rcases e.n a u q with z | z
    · rw [hg] at z; cases z
    · rw [hh] at z; cases z
section
variable {K : PySem.W.Frag} {H₀ G H G' H' : Hp} {δ : DEn} {σ : L2.St}
theorem SlIs.ext {v : V} {s : Sl} (e : Ext G H G' H') (h : SlIs K G H v s) : SlIs K G' H' v s := by
  cases s with
  | dat d => exact dv_same e.g h
  | own ds =>
    obtain ⟨a, vs, rfl, hg, hh, hd⟩ := h
    exact ⟨a, vs, rfl, e.keep hg hh, e.h _ _ hh, dvs_same e.g hd⟩
  | two xs ys => exact h.elim
  | fz as d => exact FzIs.same e.g h
  | exc C =>
    obtain ⟨x, rfl, hx⟩ := h
    exact ⟨x, rfl, e.g _ _ hx⟩
theorem Sees.ext (S : Sees K H₀ G δ σ H) (e : Ext G H G' H') : Sees K H₀ G' δ σ H' :=
  ⟨S.old.trans e.g, e.s, S.len, fun i s h => by
    obtain ⟨v, h1, h2⟩ := S.has i s h
    exact ⟨v, h1, h2.ext e⟩, S.sep⟩
theorem Sees.refl (S : Sees K H₀ G δ σ H) : Ext G H G H := .refl S.sub
theorem Sees.oldH (S : Sees K H₀ G δ σ H) : Same H₀ H := S.old.trans S.sub.same
theorem slot_lt : ∀ {δ : DEn} {i : Nat} {s : Sl}, slot δ i = some s → i < δ.length
  | [], _, _, h => by cases h
  | _ :: _, 0, _, _ => Nat.zero_lt_succ _
  | _ :: xs, i + 1, s, h => Nat.succ_lt_succ (slot_lt (δ := xs) (i := i) (s := s) h)
theorem Sees.setS {v : V} {s : Sl} (S : Sees K H₀ G δ σ H) (i : Nat) (h : SlIs K G H v s) (hs : ∀ ds j es a, s = .own ds → slot δ j = some (.own es) → σ[j]? = some (some (.ref a)) → v ≠ .ref a) : Sees K H₀ G (put (some s) i δ) (σ.set i (some v)) H := by
  have look : ∀ j u, slot (put (some s) i δ) j = some u → (j = i ∧ u = s ∧ (σ.set i (some v))[j]? = some (some v)) ∨ (j ≠ i ∧ slot δ j = some u ∧ (σ.set i (some v))[j]? = σ[j]?) := fun j u hj => by
    rw [slot_put] at hj
    split at hj
    · rename_i hc
      obtain ⟨rfl, hl⟩ := hc
      cases hj
      exact .inl ⟨rfl, rfl, by rw [List.getElem?_set_self (Nat.lt_of_lt_of_le hl S.len)]⟩
    · rename_i hc
      have hji : j ≠ i := fun z => hc ⟨z, by rw [← z]; exact slot_lt hj⟩
      exact .inr ⟨hji, hj, by rw [List.getElem?_set_ne (Ne.symm hji)]⟩
  refine ⟨S.old, S.sub, by rw [put_len, List.length_set]; exact S.len, fun j u hj => ?_, fun j k xs ys a hj hk e1 e2 => ?_⟩
  · rcases look j u hj with ⟨rfl, rfl, e⟩ | ⟨_, h1, e⟩
    · exact ⟨v, e, h⟩
    · rw [e]; exact S.has j u h1
  · rcases look j _ hj with ⟨rfl, z1, e3⟩ | ⟨n1, h1, e3⟩ <;> rcases look k _ hk with ⟨rfl, z2, e4⟩ | ⟨n2, h2, e4⟩
    · rfl
    · rw [e3] at e1; rw [e4] at e2
      cases e1
      exact absurd rfl (hs xs k ys a z1.symm h2 e2)
    · rw [e3] at e1; rw [e4] at e2
      cases e2
      exact absurd rfl (hs ys j xs a z2.symm h1 e1)
    · rw [e3] at e1; rw [e4] at e2
      exact S.sep j k xs ys a h1 h2 e1 e2
theorem Sees.setD {v : V} {d : PyData} (S : Sees K H₀ G δ σ H) (i : Nat) (h : DV K G v d) : Sees K H₀ G (put (some (.dat d)) i δ) (σ.set i (some v)) H :=
  S.setS i (s := .dat d) h fun _ _ _ _ z => nomatch z
theorem Sees.ownAt (S : Sees K H₀ G δ σ H) {i : Nat} {ds : List PyData} (h : slot δ i = some (.own ds)) : ∃ a vs, σ[i]? = some (some (.ref a)) ∧ G a = none ∧ H a = some (.lst vs) ∧ DVs K G vs ds := by
  obtain ⟨v, h1, a, vs, rfl, h2, h3, h4⟩ := S.has i _ h
  exact ⟨a, vs, h1, h2, h3, h4⟩
theorem Sees.setO {a : Addr} {vs : List V} {ds : List PyData} (S : Sees K H₀ G δ σ H) (e : Ext G H G' H') (i : Nat) (hn : H a = none) (hg : G' a = none) (hh : H' a = some (.lst vs)) (hd : DVs K G' vs ds) :
    Sees K H₀ G' (put (some (.own ds)) i δ) (σ.set i (some (.ref a))) H' :=
  (S.ext e).setS i (s := .own ds) ⟨a, vs, rfl, hg, hh, hd⟩ fun _ j es b _ h1 h2 z => by
    cases z
    obtain ⟨c, ws, q1, q2, q3, q4⟩ := S.ownAt h1
    rw [h2] at q1
    cases q1
    rw [hn] at q3; cases q3
theorem Sees.updO {i : Nat} {a : Addr} {ds es : List PyData} {vs : List V} (S : Sees K H₀ G δ σ H) (h : slot δ i = some (.own ds)) (ha : σ[i]? = some (some (.ref a))) (hd : DVs K G vs es) :
    Sees K H₀ G (put (some (.own es)) i δ) σ (upd H a (.lst vs)) := by
  obtain ⟨b, ws, q1, q2, q3, q4⟩ := S.ownAt h
  rw [ha] at q1
  cases q1
  have look : ∀ j u, slot (put (some (.own es)) i δ) j = some u → (j = i ∧ u = .own es) ∨ (j ≠ i ∧ slot δ j = some u) := fun j u hj => by
    rw [slot_put] at hj
    split at hj
    · rename_i hc
      cases hj
      exact .inl ⟨hc.1, rfl⟩
    · rename_i hc
      exact .inr ⟨fun z => hc ⟨z, by rw [← z]; exact slot_lt hj⟩, hj⟩
  refine ⟨S.old, fun c => ?_, by rw [put_len]; exact S.len, fun j u hj => ?_, fun j k xs ys c hj hk e1 e2 => ?_⟩
  · by_cases z : c = a
    · subst z
      exact .inr ⟨q2, vs, upd_same⟩
    · rw [upd_ne z]; exact S.sub c
  · rcases look j u hj with ⟨rfl, rfl⟩ | ⟨n1, h1⟩
    · exact ⟨_, ha, a, vs, rfl, q2, upd_same, hd⟩
    · obtain ⟨v, h2, h3⟩ := S.has j u h1
      refine ⟨v, h2, ?_⟩
      cases u with
      | dat d => exact h3
      | two xs ys => exact h3.elim
      | fz as d => exact h3
      | exc C => exact h3
      | own xs =>
        obtain ⟨c, ws, rfl, p1, p2, p3⟩ := h3
        refine ⟨c, ws, rfl, p1, ?_, p3⟩
        rw [upd_ne (fun z => ?_)]
        · exact p2
        · subst z
          exact n1 (S.sep j i xs ds c h1 h h2 ha)
  · rcases look j _ hj with ⟨rfl, _⟩ | ⟨n1, h1⟩ <;> rcases look k _ hk with ⟨rfl, _⟩ | ⟨n2, h2⟩
    · rfl
    · exact S.sep j k ds ys c h h2 e1 e2
    · exact S.sep j k xs ds c h1 h e1 e2
    · exact S.sep j k xs ys c h1 h2 e1 e2
theorem Sees.frz {i : Nat} {ds : List PyData} (S : Sees K H₀ G δ σ H) (h : slot δ i = some (.own ds)) : ∃ G', Same G G' ∧ Sees K H₀ G' (put (some (.dat (.list ds))) i δ) σ H := by
  obtain ⟨a, vs, q1, q2, q3, q4⟩ := S.ownAt h
  have sg : Same G (upd G a (.lst vs)) := fun b o e => by rw [upd_ne (ne_of_none e q2)]; exact e
  refine ⟨upd G a (.lst vs), sg, S.old.trans sg, fun b => ?_, by rw [put_len]; exact S.len, fun j u hj => ?_, fun j k xs ys c hj hk e1 e2 => ?_⟩
  · by_cases z : b = a
    · subst z
      exact .inl (by rw [upd_same, q3])
    · rw [upd_ne z]; exact S.sub b
  · rw [slot_put] at hj
    split at hj
    · rename_i hc
      cases hj
      exact ⟨_, by rw [hc.1]; exact q1, .lst (SqL.of upd_same) (dvs_same sg q4)⟩
    · rename_i hc
      have hji : j ≠ i := fun z => hc ⟨z, by rw [← z]; exact slot_lt hj⟩
      obtain ⟨v, h2, h3⟩ := S.has j u hj
      refine ⟨v, h2, ?_⟩
      cases u with
      | dat d => exact dv_same sg h3
      | two xs ys => exact h3.elim
      | fz as d => exact FzIs.same sg h3
      | exc C =>
        obtain ⟨x, rfl, hx⟩ := h3
        exact ⟨x, rfl, sg _ _ hx⟩
      | own xs =>
        obtain ⟨c, ws, rfl, p1, p2, p3⟩ := h3
        refine ⟨c, ws, rfl, ?_, p2, dvs_same sg p3⟩
        rw [upd_ne (fun z => ?_)]
        · exact p1
        · subst z
          exact hji (S.sep j i xs ds c hj h h2 q1)
  · have look : ∀ j u, slot (put (some (.dat (.list ds))) i δ) j = some (.own u) → slot δ j = some (.own u) := fun j u hj => by
      rw [slot_put] at hj
      split at hj
      · cases hj
      · exact hj
    exact S.sep j k xs ys c (look _ _ hj) (look _ _ hk) e1 e2
end
noncomputable abbrev DX := Addr → Prop
noncomputable abbrev DE := DX → DEn → (PyData → Prop) → Prop
noncomputable abbrev DL := DX → DEn → (List PyData → Prop) → Prop
noncomputable abbrev DT := DX → DEn → (Bool → Prop) → Prop
noncomputable def ExOk (H₀ : Hp) (E : XK) (ex : DX) : Prop := ∀ C H', Same H₀ H' → ex C → E (.ref C) none H'
section
variable (K : PySem.W.Frag) (H₀ : Hp) (E : XK)
noncomputable def EvD (te : TE) (de : DE) : Prop := ∀ ex δ σ G H Qd Q, ExOk H₀ E ex → Sees K H₀ G δ σ H → de ex δ Qd → (∀ v d G' H', Ext G H G' H' → DV K G' v d → Qd d → Q v H') → te σ H Q
noncomputable def BvD (te : TE) (de : DE) : Prop := ∀ ex δ σ G H Qd Q, ExOk H₀ E ex → Sees K H₀ G δ σ H → de ex δ Qd → (∀ v d G' H', Ext G H G' H' → DV K H' v d → Qd d → Q v H') → te σ H Q
noncomputable def LvD (te : TE) (dl : DL) : Prop := ∀ ex δ σ G H Qd Q, ExOk H₀ E ex → Sees K H₀ G δ σ H → dl ex δ Qd → (∀ a vs ds G' H', Ext G H G' H' → SqL K H' a vs → DVs K G' vs ds → Qd ds → Q (.ref a) H') → te σ H Q
noncomputable def OvD (te : TE) (dl : DL) : Prop := ∀ ex δ σ G H Qd Q, ExOk H₀ E ex → Sees K H₀ G δ σ H → dl ex δ Qd → (∀ a vs ds G' H', Ext G H G' H' → H a = none → G' a = none → H' a = some (.lst vs) → DVs K G' vs ds → Qd ds → Q (.ref a) H') → te σ H Q
noncomputable def TvD (tt : TT) (dt : DT) : Prop := ∀ ex δ σ G H Qd Q, ExOk H₀ E ex → Sees K H₀ G δ σ H → dt ex δ Qd → (∀ b G' H', Ext G H G' H' → Qd b → Q b H') → tt σ H Q
noncomputable def AvD (ta : TA) (dl : DL) : Prop := ∀ ex δ σ G H Qd Q, ExOk H₀ E ex → Sees K H₀ G δ σ H → dl ex δ Qd → (∀ vs ds G' H', Ext G H G' H' → DVs K H' vs ds → Qd ds → Q vs H') → ta σ H Q
noncomputable def AvE (ta : TA) (n : Nat) (dl : DL) : Prop := ∀ ex δ σ G H Qd Q, ExOk H₀ E ex → Sees K H₀ G δ σ H → dl ex δ Qd → (∀ vs ds G' H', Ext G H G' H' → DVs K G' vs ds → ds.length = n → Qd ds → Q vs H') → ta σ H Q
end
noncomputable def dVar (i : Nat) (_ex : DX) (δ : DEn) (Q : PyData → Prop) : Prop := match slot δ i with
  | some (.dat d) => Q d
  | _ => False
noncomputable def dBVar (i : Nat) (_ex : DX) (δ : DEn) (Q : PyData → Prop) : Prop := match slot δ i with
  | some (.dat d) => Q d
  | some (.own ds) => Q (.list ds)
  | _ => False
noncomputable def dLVar (i : Nat) (_ex : DX) (δ : DEn) (Q : List PyData → Prop) : Prop := match slot δ i with
  | some (.dat (.list ds)) => Q ds
  | some (.own ds) => Q ds
  | _ => False
noncomputable def dC (d : PyData) (_ex : DX) (_δ : DEn) (Q : PyData → Prop) : Prop := Q d
noncomputable def dFz (dl : DL) (ex : DX) (δ : DEn) (Q : PyData → Prop) : Prop := dl ex δ fun ds => Q (.list ds)
noncomputable def dAsL (de : DE) (ex : DX) (δ : DEn) (Q : List PyData → Prop) : Prop := de ex δ fun d => match d with
  | .list ds => Q ds
  | _ => False
noncomputable def dNil (_ex : DX) (_δ : DEn) (Q : List PyData → Prop) : Prop := Q []
noncomputable def dCons (de : DE) (dl : DL) (ex : DX) (δ : DEn) (Q : List PyData → Prop) : Prop := de ex δ fun d => dl ex δ fun ds => Q (d :: ds)
section
variable {K : PySem.W.Frag} {H₀ : Hp} {E : XK} {te : TE} {de : DE} {dl : DL} {ta : TA}
theorem bv_ev (h : EvD K H₀ E te de) : BvD K H₀ E te de := fun ex δ σ G H Qd Q hx S q k =>
  h ex δ σ G H Qd Q hx S q fun v d G' H' e hd => k v d G' H' e (dv_same e.s.same hd)
theorem ev_ov (h : OvD K H₀ E te dl) : EvD K H₀ E te (dFz dl) := fun ex δ σ G H Qd Q hx S q k =>
  h ex δ σ G H _ Q hx S q fun a vs ds G' H' e hn hg hh hd qd => by
    have sg : Same G' (upd G' a (.lst vs)) := fun b o z => by rw [upd_ne (ne_of_none z hg)]; exact z
    refine k (.ref a) (.list ds) (upd G' a (.lst vs)) H' ⟨e.g.trans sg, e.h, fun b => ?_, fun b o z => ?_⟩ (.lst (SqL.of upd_same) (dvs_same sg hd)) qd
    · by_cases w : b = a
      · subst w; exact .inl (by rw [upd_same, hh])
      · rw [upd_ne w]; exact e.s b
    · by_cases w : b = a
      · subst w; exact .inr hn
      · rw [upd_ne w] at z; exact e.n b o z
theorem lv_ov (h : OvD K H₀ E te dl) : LvD K H₀ E te dl := fun ex δ σ G H Qd Q hx S q k =>
  h ex δ σ G H _ Q hx S q fun a vs ds G' H' e hn hg hh hd qd => k a vs ds G' H' e (SqL.of hh) hd qd
theorem dv_list {G : Hp} {v : V} {ds : List PyData} (h : DV K G v (.list ds)) : ∃ a vs, v = .ref a ∧ SqL K G a vs ∧ DVs K G vs ds := by
  cases h with
  | lst h1 h2 => exact ⟨_, _, rfl, h1, h2⟩
theorem dv_tuple {G : Hp} {v : V} {ds : List PyData} (h : DV K G v (.tuple ds)) : ∃ a vs, v = .ref a ∧ SqT K G a vs ∧ DVs K G vs ds := by
  cases h with
  | tup h1 h2 => exact ⟨_, _, rfl, h1, h2⟩
theorem dv_int {G : Hp} {v : V} {i : Int} (h : DV K G v (.int i)) : v = .int i := by cases h; rfl
theorem dv_bl {G : Hp} {v : V} {i : Bool} (h : DV K G v (.bool i)) : v = .bl i := by cases h; rfl
theorem dv_str {G : Hp} {v : V} {i : Str} (h : DV K G v (.str i)) : v = .str i := by cases h; rfl
theorem lv_ev (h : EvD K H₀ E te de) : LvD K H₀ E te (dAsL de) := fun ex δ σ G H Qd Q hx S q k =>
  h ex δ σ G H _ Q hx S q fun v d G' H' e hd qd => by
    cases d with
    | list ds =>
      obtain ⟨a, vs, rfl, h1, h2⟩ := dv_list hd
      exact k a vs ds G' H' e (e.s.same.seq h1) h2 qd
    | _ => exact qd.elim
theorem ev_var (i : Nat) : EvD K H₀ E (tVar i) (dVar i) := fun ex δ σ G H Qd Q hx S q k => by
  unfold dVar at q
  split at q
  · rename_i d hs
    obtain ⟨v, h1, h2⟩ := S.has i _ hs
    exact ⟨v, h1, k v d G H S.refl h2 q⟩
  · exact q.elim
theorem bv_var (i : Nat) : BvD K H₀ E (tVar i) (dBVar i) := fun ex δ σ G H Qd Q hx S q k => by
  unfold dBVar at q
  split at q
  · rename_i d hs
    obtain ⟨v, h1, h2⟩ := S.has i _ hs
    exact ⟨v, h1, k v d G H S.refl (dv_same S.sub.same h2) q⟩
  · rename_i ds hs
    obtain ⟨a, vs, h1, h2, h3, h4⟩ := S.ownAt hs
    exact ⟨_, h1, k _ _ G H S.refl (.lst (SqL.of h3) (dvs_same S.sub.same h4)) q⟩
  · exact q.elim
theorem lv_var (i : Nat) : LvD K H₀ E (tVar i) (dLVar i) := fun ex δ σ G H Qd Q hx S q k => by
  unfold dLVar at q
  split at q
  · rename_i ds hs
    obtain ⟨v, h1, h2⟩ := S.has i _ hs
    obtain ⟨a, vs, rfl, h3, h4⟩ := dv_list h2
    exact ⟨_, h1, k a vs ds G H S.refl (S.sub.same.seq h3) h4 q⟩
  · rename_i ds hs
    obtain ⟨a, vs, h1, h2, h3, h4⟩ := S.ownAt hs
    exact ⟨_, h1, k a vs ds G H S.refl (SqL.of h3) h4 q⟩
  · exact q.elim
theorem ev_c {v : V} {d : PyData} (h : ∀ G : Hp, DV K G v d) : EvD K H₀ E (tC v) (dC d) := fun ex δ σ G H Qd Q hx S q k => k v d G H S.refl (h G) q
theorem ev_int {i : Int} : EvD K H₀ E (tC (.int i)) (dC (.int i)) := ev_c fun _ => .int i
theorem ev_bl {i : Bool} : EvD K H₀ E (tC (.bl i)) (dC (.bool i)) := ev_c fun _ => .bl i
theorem ev_str {i : Str} : EvD K H₀ E (tC (.str i)) (dC (.str i)) := ev_c fun _ => .str i
theorem av_nil : AvD K H₀ E tNil dNil := fun ex δ σ G H Qd Q hx S q k => k [] [] G H S.refl .nil q
theorem av_cons (h : BvD K H₀ E te de) (t : AvD K H₀ E ta dl) : AvD K H₀ E (tCons te ta) (dCons de dl) := fun ex δ σ G H Qd Q hx S q k =>
  h ex δ σ G H _ _ hx S q fun v d G1 H1 e1 hd q1 => t ex δ σ G1 H1 _ _ hx (S.ext e1) q1 fun vs ds G2 H2 e2 hds q2 =>
    k (v :: vs) (d :: ds) G2 H2 (e1.trans e2) (.cons (dv_same e2.h hd) hds) q2
theorem ae_nil : AvE K H₀ E tNil 0 dNil := fun ex δ σ G H Qd Q hx S q k => k [] [] G H S.refl .nil rfl q
theorem ae_cons {n : Nat} (h : EvD K H₀ E te de) (t : AvE K H₀ E ta n dl) : AvE K H₀ E (tCons te ta) (n + 1) (dCons de dl) := fun ex δ σ G H Qd Q hx S q k =>
  h ex δ σ G H _ _ hx S q fun v d G1 H1 e1 hd q1 => t ex δ σ G1 H1 _ _ hx (S.ext e1) q1 fun vs ds G2 H2 e2 hds hn q2 =>
    k (v :: vs) (d :: ds) G2 H2 (e1.trans e2) (.cons (dv_same e2.g hd) hds) (by rw [List.length_cons, hn]) q2
theorem ext_new {G H : Hp} {p : Addr} {xs : List V} (s : Sub G H) (hp : H p = none) : Ext G H (upd G p (.tup xs)) (upd H p (.tup xs)) := by
  have hg : G p = none := s.same.free hp
  refine ⟨fun b o z => by rw [upd_ne (ne_of_none z hg)]; exact z, fun b o z => by rw [upd_ne (ne_of_none z hp)]; exact z, fun b => ?_, fun b o z => ?_⟩
  · by_cases w : b = p
    · subst w; exact .inl (by rw [upd_same, upd_same])
    · rw [upd_ne w, upd_ne w]; exact s b
  · by_cases w : b = p
    · subst w; exact .inr hp
    · rw [upd_ne w] at z; exact .inl z
theorem ext_newL {G H : Hp} {p : Addr} {xs : List V} (s : Sub G H) (hp : H p = none) : Ext G H G (upd H p (.lst xs)) ∧ G p = none := by
  have hg : G p = none := s.same.free hp
  refine ⟨⟨Same.refl _, fun b o z => by rw [upd_ne (ne_of_none z hp)]; exact z, fun b => ?_, fun b o z => .inl z⟩, hg⟩
  by_cases w : b = p
  · subst w; exact .inr ⟨hg, xs, upd_same⟩
  · rw [upd_ne w]; exact s b
noncomputable def dTup (dl : DL) (ex : DX) (δ : DEn) (Q : PyData → Prop) : Prop := dl ex δ fun ds => Q (.tuple ds)
noncomputable def dLst (dl : DL) (ex : DX) (δ : DEn) (Q : List PyData → Prop) : Prop := dl ex δ Q
theorem ev_tup {n : Nat} (h : AvE K H₀ E ta n dl) (hn : n ≤ 1000) : EvD K H₀ E (tTup ta) (dTup dl) := fun ex δ σ G H Qd Q hx S q k =>
  h ex δ σ G H _ _ hx S q fun vs ds G1 H1 e1 hd q0 q1 => ⟨Nat.le_of_lt (small1000 (by rw [hd.len, q0]; exact hn)), fun p hp => by
    have e2 := ext_new (xs := vs) e1.s hp
    exact k (.ref p) (.tuple ds) _ _ (e1.trans e2) (.tup (SqT.of upd_same) (dvs_same e2.g hd)) q1⟩
theorem ov_lst {n : Nat} (h : AvE K H₀ E ta n dl) (hn : n ≤ 1000) : OvD K H₀ E (tLst ta) (dLst dl) := fun ex δ σ G H Qd Q hx S q k =>
  h ex δ σ G H _ _ hx S q fun vs ds G1 H1 e1 hd q0 q1 => ⟨Nat.le_of_lt (small1000 (by rw [hd.len, q0]; exact hn)), fun p hp => by
    obtain ⟨e2, hg⟩ := ext_newL (xs := vs) e1.s hp
    exact k p vs ds _ _ (e1.trans e2) (e1.h.free hp) hg upd_same hd q1⟩
end
section
variable {K : PySem.W.Frag} {H₀ : Hp} {E : XK} {te ta tb : TE} {da db de : DE} {dl dk : DL} {t : TA} {tt tu : TT} {dt du : DT}
noncomputable abbrev RD2 := PyData → PyData → (PyData → Prop) → Prop
noncomputable def ROp (K : PySem.W.Frag) (r : R2) (rd : RD2) : Prop := ∀ (G H : Hp) (x y : V) (dx dy : PyData) (Qd : PyData → Prop) (Q : VK), DV K H x dx → DV K H y dy → rd dx dy Qd → (∀ v d, DV K G v d → Qd d → Q v H) → r x y H Q
noncomputable def dOp (rd : RD2) (da db : DE) (ex : DX) (δ : DEn) (Q : PyData → Prop) : Prop := da ex δ fun x => db ex δ fun y => rd x y Q
theorem ev_op {r : R2} {rd : RD2} (hr : ROp K r rd) (ha : BvD K H₀ E ta da) (hb : BvD K H₀ E tb db) : EvD K H₀ E (tOp r ta tb) (dOp rd da db) := fun ex δ σ G H Qd Q hx S q k =>
  ha ex δ σ G H _ _ hx S q fun x dx G1 H1 e1 h1 q1 => hb ex δ σ G1 H1 _ _ hx (S.ext e1) q1 fun y dy G2 H2 e2 h2 q2 =>
    hr G2 H2 x y dx dy Qd Q (dv_same e2.h h1) h2 q2 fun v d hv qd => k v d G2 H2 (e1.trans e2) hv qd
noncomputable def oI (C : Int → Int → Prop) (f : Int → Int → Int) (x y : PyData) (Q : PyData → Prop) : Prop := match x, y with
  | .int i, .int j => C i j ∧ Q (.int (f i j))
  | _, _ => False
noncomputable def oI0 (f : Int → Int → Int) (x y : PyData) (Q : PyData → Prop) : Prop := match x, y with
  | .int i, .int j => Q (.int (f i j))
  | _, _ => False
noncomputable def oB0 (f : Int → Int → Bool) (x y : PyData) (Q : PyData → Prop) : Prop := match x, y with
  | .int i, .int j => Q (.bool (f i j))
  | _, _ => False
theorem ro_i {C : Int → Int → Prop} {f : Int → Int → Int} : ROp K (rI C fun i j => .int (f i j)) (oI C f) := by
  intro G H x y dx dy Qd Q hx hy q k
  unfold oI at q
  split at q
  · cases dv_int hx; cases dv_int hy
    exact ⟨_, _, rfl, rfl, q.1, k _ _ (.int _) q.2⟩
  · exact q.elim
theorem ro_i0 {f : Int → Int → Int} : ROp K (rI0 fun i j => .int (f i j)) (oI0 f) := by
  intro G H x y dx dy Qd Q hx hy q k
  unfold oI0 at q
  split at q
  · cases dv_int hx; cases dv_int hy
    exact ⟨_, _, rfl, rfl, k _ _ (.int _) q⟩
  · exact q.elim
theorem ro_b0 {f : Int → Int → Bool} : ROp K (rI0 fun i j => .bl (f i j)) (oB0 f) := by
  intro G H x y dx dy Qd Q hx hy q k
  unfold oB0 at q
  split at q
  · cases dv_int hx; cases dv_int hy
    exact ⟨_, _, rfl, rfl, k _ _ (.bl _) q⟩
  · exact q.elim
noncomputable def oEq (x y : PyData) (Q : PyData → Prop) : Prop := match x, y with
  | .int i, .int j => Q (.bool (decide (i = j)))
  | .str i, .str j => Q (.bool (decide (i = j)))
  | .bool i, .bool j => Q (.bool (decide (i = j)))
  | _, _ => False
noncomputable def oNe (x y : PyData) (Q : PyData → Prop) : Prop := match x, y with
  | .int i, .int j => Q (.bool (!decide (i = j)))
  | .str i, .str j => Q (.bool (!decide (i = j)))
  | .bool i, .bool j => Q (.bool (!decide (i = j)))
  | _, _ => False
theorem ro_eq : ROp K rEq oEq := by
  intro G H x y dx dy Qd Q hx hy q k
  unfold oEq at q
  split at q
  · cases dv_int hx; cases dv_int hy
    refine ⟨rfl, k _ _ (.bl _) ?_⟩
    simpa using q
  · cases dv_str hx; cases dv_str hy
    refine ⟨rfl, k _ _ (.bl _) ?_⟩
    simpa using q
  · cases dv_bl hx; cases dv_bl hy
    refine ⟨rfl, k _ _ (.bl _) ?_⟩
    simpa using q
  · exact q.elim
theorem ro_ne : ROp K rNe oNe := by
  intro G H x y dx dy Qd Q hx hy q k
  unfold oNe at q
  split at q
  · cases dv_int hx; cases dv_int hy
    refine ⟨rfl, k _ _ (.bl _) ?_⟩
    simpa using q
  · cases dv_str hx; cases dv_str hy
    refine ⟨rfl, k _ _ (.bl _) ?_⟩
    simpa using q
  · cases dv_bl hx; cases dv_bl hy
    refine ⟨rfl, k _ _ (.bl _) ?_⟩
    simpa using q
  · exact q.elim
noncomputable def oEqD (x y : PyData) (Q : PyData → Prop) : Prop := ∃ (α : Type) (e : Enc α) (a b : α), x = e.d a ∧ y = e.d b ∧ ∀ k : Bool, (k = true ↔ a = b) → Q (.bool k)
noncomputable def oNeD (x y : PyData) (Q : PyData → Prop) : Prop := ∃ (α : Type) (e : Enc α) (a b : α), x = e.d a ∧ y = e.d b ∧ ∀ k : Bool, (k = true ↔ a = b) → Q (.bool !k)
theorem ro_eqD : ROp K (rEqD K false) oEqD := by
  rintro G H x y dx dy Qd Q hx hy ⟨α, e, a, b, rfl, rfl, q⟩ k
  exact ⟨α, e, a, b, hx, hy, fun c hc => k _ _ (.bl _) (q c hc)⟩
theorem ro_neD : ROp K (rEqD K true) oNeD := by
  rintro G H x y dx dy Qd Q hx hy ⟨α, e, a, b, rfl, rfl, q⟩ k
  exact ⟨α, e, a, b, hx, hy, fun c hc => k _ _ (.bl _) (q c hc)⟩
noncomputable def dNeg (da : DE) (ex : DX) (δ : DEn) (Q : PyData → Prop) : Prop := da ex δ fun x => match x with
  | .int i => Q (.int (-i))
  | _ => False
theorem ev_neg (ha : BvD K H₀ E ta da) : EvD K H₀ E (tUn (rU fun i => .int (-i)) ta) (dNeg da) := fun ex δ σ G H Qd Q hx S q k =>
  ha ex δ σ G H _ _ hx S q fun x dx G1 H1 e1 h1 q1 => by
    cases dx with
    | int i =>
      cases dv_int h1
      exact ⟨_, rfl, k _ _ G1 H1 e1 (.int _) q1⟩
    | _ => exact q1.elim
theorem ev_k {v : Int} (h : EvD K H₀ E te de) (hk : ∀ ex δ Q, Q (.int v) → de ex δ Q) : EvD K H₀ E te (dC (.int v)) := fun ex δ σ G H Qd Q hx S q k => h ex δ σ G H Qd Q hx S (hk ex δ Qd q) k
noncomputable def dMap (f : Int → Int) (da : DE) (ex : DX) (δ : DEn) (Q : PyData → Prop) : Prop := da ex δ fun x => match x with
  | .int i => Q (.int (f i))
  | _ => False
theorem ev_dvk {k : Int} (hk : CDivB 0 k) (ha : BvD K H₀ E ta da) (hb : EvD K H₀ E tb (dC (.int k))) : EvD K H₀ E (tOp (rI CDivB fun i j => .int (i / j)) ta tb) (dMap (fun i => i / k) da) := fun ex δ σ G H Qd Q hx S q k' =>
  ha ex δ σ G H _ _ hx S q fun x dx G1 H1 e1 h1 q1 => hb ex δ σ G1 H1 (fun d => d = .int k) _ hx (S.ext e1) rfl fun y dy G2 H2 e2 h2 hy => by
    subst hy
    cases dv_int h2
    cases dx with
    | int i => cases dv_int h1; exact ⟨_, _, rfl, rfl, hk, k' _ _ G2 H2 (e1.trans e2) (.int _) q1⟩
    | _ => exact q1.elim
theorem ev_mdk {k : Int} (hk : 0 < k) (ha : BvD K H₀ E ta da) (hb : EvD K H₀ E tb (dC (.int k))) : EvD K H₀ E (tOp (rI (fun _ j => 0 < j) fun i j => .int (i % j)) ta tb) (dMap (fun i => i % k) da) := fun ex δ σ G H Qd Q hx S q k' =>
  ha ex δ σ G H _ _ hx S q fun x dx G1 H1 e1 h1 q1 => hb ex δ σ G1 H1 (fun d => d = .int k) _ hx (S.ext e1) rfl fun y dy G2 H2 e2 h2 hy => by
    subst hy
    cases dv_int h2
    cases dx with
    | int i => cases dv_int h1; exact ⟨_, _, rfl, rfl, hk, k' _ _ G2 H2 (e1.trans e2) (.int _) q1⟩
    | _ => exact q1.elim
noncomputable def dIxL (dl : DL) (db : DE) (ex : DX) (δ : DEn) (Q : PyData → Prop) : Prop := dl ex δ fun ds => db ex δ fun y => match y with
  | .int i => ∃ d, atI ds i = some d ∧ Q d
  | _ => False
theorem dvs_atI {G : Hp} {vs : List V} {ds : List PyData} {i : Int} {d : PyData} (h : DVs K G vs ds) (e : atI ds i = some d) : ∃ v, atI vs i = some v ∧ DV K G v d := by
  unfold atI at e ⊢
  rw [h.len]
  cases q : ixN ds.length i with
  | none => rw [q] at e; cases e
  | some j =>
    rw [q] at e
    exact h.at e
theorem ev_ixl (ha : LvD K H₀ E ta dl) (hb : BvD K H₀ E tb db) : EvD K H₀ E (tOp (rIxL K) ta tb) (dIxL dl db) := fun ex δ σ G H Qd Q hx S q k =>
  ha ex δ σ G H _ _ hx S q fun a vs ds G1 H1 e1 h1 h2 q1 => hb ex δ σ G1 H1 _ _ hx (S.ext e1) q1 fun y dy G2 H2 e2 h3 q2 => by
    cases dy with
    | int i =>
      obtain ⟨d, z, q2⟩ := q2
      cases dv_int h3
      obtain ⟨v, z1, z2⟩ := dvs_atI h2 z
      exact ⟨a, vs, i, v, rfl, rfl, e2.h.seq h1, z1, k v d G2 H2 (e1.trans e2) (dv_same e2.g z2) q2⟩
    | _ => exact q2.elim
noncomputable def nth : List PyData → Nat → Option PyData
  | [], _ => none
  | d :: _, 0 => some d
  | _ :: ds, n + 1 => nth ds n
theorem nth_at : ∀ {ds : List PyData} {k : Nat} {d : PyData}, nth ds k = some d → ds[k]? = some d
  | [], _, _, h => by cases h
  | d :: _, 0, _, h => by simpa [nth] using h
  | _ :: ds, k + 1, d, h => by simpa using nth_at (ds := ds) (k := k) (d := d) h
noncomputable def dIxK (k : Nat) (da : DE) (ex : DX) (δ : DEn) (Q : PyData → Prop) : Prop := da ex δ fun x => match x with
  | .tuple ds => (match nth ds k with
    | some d => Q d
    | none => False)
  | _ => False
theorem ev_ixk (m : Nat) (ha : EvD K H₀ E ta da) : EvD K H₀ E (tOp (rIxT K) ta (tC (.int (m : Int)))) (dIxK m da) := fun ex δ σ G H Qd Q hx S q k =>
  ha ex δ σ G H _ _ hx S q fun x dx G1 H1 e1 h1 q1 => by
    cases dx with
    | tuple ds =>
      dsimp only at q1
      split at q1
      · rename_i d z
        obtain ⟨a, vs, rfl, h2, h3⟩ := dv_tuple h1
        obtain ⟨v, z1, z2⟩ := dvs_atI h3 (atI_nat (nth_at z))
        exact ⟨a, vs, _, v, rfl, rfl, sqT_same e1.s.same h2, z1, k v _ G1 H1 e1 z2 q1⟩
      · exact q1.elim
    | _ => exact q1.elim
noncomputable abbrev RDc := List PyData → (PyData → Prop) → Prop
noncomputable def RCb (K : PySem.W.Frag) (r : List V → Hp → VK → Prop) (rd : RDc) : Prop := ∀ (G H : Hp) (xs : List V) (ds : List PyData) (Qd : PyData → Prop) (Q : VK), DVs K H xs ds → rd ds Qd → (∀ v d, DV K G v d → Qd d → Q v H) → r xs H Q
noncomputable def dCb (rd : RDc) (dl : DL) (ex : DX) (δ : DEn) (Q : PyData → Prop) : Prop := dl ex δ fun ds => rd ds Q
theorem ev_cb {r : List V → Hp → VK → Prop} {rd : RDc} (hr : RCb K r rd) (ha : AvD K H₀ E t dl) : EvD K H₀ E (tCB r t) (dCb rd dl) := fun ex δ σ G H Qd Q hx S q k =>
  ha ex δ σ G H _ _ hx S q fun vs ds G1 H1 e1 h1 q1 => hr G1 H1 vs ds Qd Q h1 q1 fun v d hv qd => k v d G1 H1 e1 hv qd
noncomputable def bAbs (ds : List PyData) (Q : PyData → Prop) : Prop := match ds with
  | [.int i] => Q (.int (if i < 0 then -i else i))
  | _ => False
noncomputable def bMin (ds : List PyData) (Q : PyData → Prop) : Prop := match ds with
  | [.int i, .int j] => Q (.int (if j < i then j else i))
  | _ => False
noncomputable def bMax (ds : List PyData) (Q : PyData → Prop) : Prop := match ds with
  | [.int i, .int j] => Q (.int (if j > i then j else i))
  | _ => False
noncomputable def bLen (ds : List PyData) (Q : PyData → Prop) : Prop := match ds with
  | [.list xs] => Q (.int xs.length)
  | [.tuple xs] => Q (.int xs.length)
  | _ => False
noncomputable def bInt (ds : List PyData) (Q : PyData → Prop) : Prop := match ds with
  | [.int i] => Q (.int i)
  | [.bool b] => Q (.int (if b then 1 else 0))
  | _ => False
theorem dvs1 {H : Hp} {xs : List V} {d : PyData} (h : DVs K H xs [d]) : ∃ x, xs = [x] ∧ DV K H x d := by
  cases h with
  | cons h t => cases t; exact ⟨_, rfl, h⟩
theorem dvs2 {H : Hp} {xs : List V} {d e : PyData} (h : DVs K H xs [d, e]) : ∃ x y, xs = [x, y] ∧ DV K H x d ∧ DV K H y e := by
  cases h with
  | cons h t => cases t with
    | cons h2 t => cases t; exact ⟨_, _, rfl, h, h2⟩
theorem rb_abs : RCb K (fun xs H Q => ∃ i, xs = [.int i] ∧ Q (.int (if i < 0 then -i else i)) H) bAbs := by
  intro G H xs ds Qd Q h q k
  unfold bAbs at q
  split at q
  · obtain ⟨x, rfl, hx⟩ := dvs1 h
    cases dv_int hx
    exact ⟨_, rfl, k _ _ (.int _) q⟩
  · exact q.elim
theorem rb_min : RCb K (fun xs H Q => ∃ i j, xs = [.int i, .int j] ∧ Q (.int (if j < i then j else i)) H) bMin := by
  intro G H xs ds Qd Q h q k
  unfold bMin at q
  split at q
  · obtain ⟨x, y, rfl, hx, hy⟩ := dvs2 h
    cases dv_int hx; cases dv_int hy
    exact ⟨_, _, rfl, k _ _ (.int _) q⟩
  · exact q.elim
theorem rb_max : RCb K (fun xs H Q => ∃ i j, xs = [.int i, .int j] ∧ Q (.int (if j > i then j else i)) H) bMax := by
  intro G H xs ds Qd Q h q k
  unfold bMax at q
  split at q
  · obtain ⟨x, y, rfl, hx, hy⟩ := dvs2 h
    cases dv_int hx; cases dv_int hy
    exact ⟨_, _, rfl, k _ _ (.int _) q⟩
  · exact q.elim
theorem rb_len : RCb K (fun xs H Q => ∃ p ys, xs = [.ref p] ∧ (SqL K H p ys ∨ SqT K H p ys) ∧ Q (.int ys.length) H) bLen := by
  intro G H xs ds Qd Q h q k
  unfold bLen at q
  split at q
  · obtain ⟨x, rfl, hx⟩ := dvs1 h
    obtain ⟨a, vs, rfl, h1, h2⟩ := dv_list hx
    exact ⟨a, vs, rfl, .inl h1, k _ _ (.int _) (by rw [h2.len]; exact q)⟩
  · obtain ⟨x, rfl, hx⟩ := dvs1 h
    obtain ⟨a, vs, rfl, h1, h2⟩ := dv_tuple hx
    exact ⟨a, vs, rfl, .inr h1, k _ _ (.int _) (by rw [h2.len]; exact q)⟩
  · exact q.elim
theorem rb_int : RCb K (fun xs H Q => (∃ i, xs = [.int i] ∧ Q (.int i) H) ∨ ∃ k, xs = [.bl k] ∧ Q (.int (if k then 1 else 0)) H) bInt := by
  intro G H xs ds Qd Q h q k
  unfold bInt at q
  split at q
  · obtain ⟨x, rfl, hx⟩ := dvs1 h
    cases dv_int hx
    exact .inl ⟨_, rfl, k _ _ (.int _) q⟩
  · obtain ⟨x, rfl, hx⟩ := dvs1 h
    cases dv_bl hx
    exact .inr ⟨_, rfl, k _ _ (.int _) q⟩
  · exact q.elim
noncomputable def dListOf (dl : DL) (ex : DX) (δ : DEn) (Q : List PyData → Prop) : Prop := dl ex δ Q
theorem ov_list {te : TE} (ha : LvD K H₀ E te dl) : OvD K H₀ E (tCB (fun xs H Q => ∃ p ys, xs = [.ref p] ∧ (SqL K H p ys ∨ SqT K H p ys) ∧ ∀ l, H l = none → Q (.ref l) (upd H l (.lst ys))) (tCons te tNil)) (dListOf dl) := fun ex δ σ G H Qd Q hx S q k =>
  ha ex δ σ G H _ _ hx S q fun a vs ds G1 H1 e1 h1 h2 q1 => ⟨a, vs, rfl, .inl h1, fun p hp => by
    obtain ⟨e2, hg⟩ := ext_newL (xs := vs) e1.s hp
    exact k p vs ds _ _ (e1.trans e2) (e1.h.free hp) hg upd_same h2 q1⟩
noncomputable def tyD : PyData → String
  | .none => "NoneType"
  | .bool _ => "bool"
  | .int _ => "int"
  | .str _ => "str"
  | .list _ => "list"
  | .tuple _ => "tuple"
  | .dict _ => "dict"
noncomputable def isD (n : String) (d : PyData) : Bool := tyD d == n || (n == "int" && tyD d == "bool")
noncomputable abbrev DO := DX → DEn → (Option Int → Prop) → Prop
noncomputable def OvP (K : PySem.W.Frag) (H₀ : Hp) (E : XK) (to : TO) (d : DO) : Prop := ∀ ex δ σ G H Qd Q, ExOk H₀ E ex → Sees K H₀ G δ σ H → d ex δ Qd → (∀ o G' H', Ext G H G' H' → Qd o → Q o H') → to σ H Q
noncomputable def dNoP (_ex : DX) (_δ : DEn) (Q : Option Int → Prop) : Prop := Q none
noncomputable def dPart (de : DE) (ex : DX) (δ : DEn) (Q : Option Int → Prop) : Prop := de ex δ fun x => match x with
  | .int i => Q (some i)
  | _ => False
theorem op_no : OvP K H₀ E tNoPart dNoP := fun ex δ σ G H Qd Q hx S q k => k none G H S.refl q
theorem op_part (h : BvD K H₀ E te de) : OvP K H₀ E (tPart te) (dPart de) := fun ex δ σ G H Qd Q hx S q k =>
  h ex δ σ G H _ _ hx S q fun x dx G1 H1 e1 h1 q1 => by
    cases dx with
    | int i =>
      cases dv_int h1
      exact ⟨_, rfl, k _ G1 H1 e1 q1⟩
    | _ => exact q1.elim
noncomputable def cutL {α : Type} (xs : List α) (lo hi : Option Int) : List α := (xs.drop (HT.sIx xs.length 0 lo)).take (HT.sIx xs.length xs.length hi - HT.sIx xs.length 0 lo)
theorem cutL_map {α β : Type} (f : α → β) (xs : List α) (lo hi : Option Int) : cutL (xs.map f) lo hi = (cutL xs lo hi).map f := by
  unfold cutL
  rw [List.length_map, List.map_take, List.map_drop]
theorem cutL_hi {α : Type} (xs : List α) (k : Nat) : cutL xs none (some (k : Int)) = xs.take k := by
  unfold cutL
  rw [HT.sIx_none, List.drop_zero, Nat.sub_zero, HT.sIx_nat, List.take_eq_take_iff.mpr]
  omega
theorem cutL_lo {α : Type} (xs : List α) (k : Nat) : cutL xs (some (k : Int)) none = xs.drop k := by
  unfold cutL
  rw [HT.sIx_none, HT.sIx_nat]
  by_cases h : k ≤ xs.length
  · rw [Nat.min_eq_left h, List.take_of_length_le (by rw [List.length_drop]; omega)]
  · have e : min k xs.length = xs.length := by omega
    rw [e, List.drop_length, List.take_nil, List.drop_eq_nil_of_le (by omega)]
noncomputable def dSl (dl : DL) (d1 d2 : DO) (ex : DX) (δ : DEn) (Q : List PyData → Prop) : Prop := dl ex δ fun ds => d1 ex δ fun lo => d2 ex δ fun hi => Q (cutL ds lo hi)
theorem dvs_cut {G : Hp} {vs : List V} {ds : List PyData} {lo hi : Option Int} (h : DVs K G vs ds) : DVs K G (cutV vs lo hi) (cutL ds lo hi) := by
  unfold cutV cutL
  rw [h.len]
  exact (h.drop _).take _
theorem ov_sl {t1 t2 : TO} {d1 d2 : DO} (ha : LvD K H₀ E te dl) (h1 : OvP K H₀ E t1 d1) (h2 : OvP K H₀ E t2 d2) : OvD K H₀ E (tSl (rSlL K) te t1 t2) (dSl dl d1 d2) := fun ex δ σ G H Qd Q hx S q k =>
  ha ex δ σ G H _ _ hx S q fun a vs ds G1 H1 e1 g1 g2 q1 => h1 ex δ σ G1 H1 _ _ hx (S.ext e1) q1 fun lo G2 H2 e2 q2 => h2 ex δ σ G2 H2 _ _ hx (S.ext (e1.trans e2)) q2 fun hi G3 H3 e3 q3 =>
    ⟨a, vs, rfl, (e2.trans e3).h.seq g1, fun p hp => by
      obtain ⟨e4, hg⟩ := ext_newL (xs := cutV vs lo hi) e3.s hp
      have e0 := e1.trans (e2.trans e3)
      exact k p _ _ _ _ (e0.trans e4) (e0.h.free hp) hg upd_same (dvs_same (e2.trans e3).g (dvs_cut g2)) q3⟩
noncomputable def dAsB (de : DE) (ex : DX) (δ : DEn) (Q : Bool → Prop) : Prop := de ex δ fun x => match x with
  | .bool b => Q b
  | _ => False
theorem tv_b (h : BvD K H₀ E te de) : TvD K H₀ E (tB te) (dAsB de) := fun ex δ σ G H Qd Q hx S q k =>
  h ex δ σ G H _ _ hx S q fun x dx G1 H1 e1 h1 q1 => by
    cases dx with
    | bool i =>
      cases dv_bl h1
      exact ⟨_, rfl, k _ G1 H1 e1 q1⟩
    | _ => exact q1.elim
theorem tv_test (h : BvD K H₀ E te de) : TvD K H₀ E (tTest te) (dAsB de) := fun ex δ σ G H Qd Q hx S q k =>
  h ex δ σ G H _ _ hx S q fun x dx G1 H1 e1 h1 q1 => by
    cases dx with
    | bool i =>
      cases dv_bl h1
      exact ⟨_, rfl, k _ G1 H1 e1 q1⟩
    | _ => exact q1.elim
noncomputable def dAnd (dt du : DT) (ex : DX) (δ : DEn) (Q : Bool → Prop) : Prop := dt ex δ fun b => if b = true then du ex δ Q else Q false
noncomputable def dOr (dt du : DT) (ex : DX) (δ : DEn) (Q : Bool → Prop) : Prop := dt ex δ fun b => if b = true then Q true else du ex δ Q
noncomputable def dNot (dt : DT) (ex : DX) (δ : DEn) (Q : Bool → Prop) : Prop := dt ex δ fun b => Q (!b)
theorem tv_and (h1 : TvD K H₀ E tt dt) (h2 : TvD K H₀ E tu du) : TvD K H₀ E (tAnd tt tu) (dAnd dt du) := fun ex δ σ G H Qd Q hx S q k =>
  h1 ex δ σ G H _ _ hx S q fun b G1 H1 e1 q1 => by
    cases b with
    | true => exact h2 ex δ σ G1 H1 _ _ hx (S.ext e1) q1 fun c G2 H2 e2 q2 => k c G2 H2 (e1.trans e2) q2
    | false => exact k false G1 H1 e1 q1
theorem tv_or (h1 : TvD K H₀ E tt dt) (h2 : TvD K H₀ E tu du) : TvD K H₀ E (tOr tt tu) (dOr dt du) := fun ex δ σ G H Qd Q hx S q k =>
  h1 ex δ σ G H _ _ hx S q fun b G1 H1 e1 q1 => by
    cases b with
    | false => exact h2 ex δ σ G1 H1 _ _ hx (S.ext e1) q1 fun c G2 H2 e2 q2 => k c G2 H2 (e1.trans e2) q2
    | true => exact k true G1 H1 e1 q1
theorem tv_not (h1 : TvD K H₀ E tt dt) : TvD K H₀ E (tNot tt) (dNot dt) := fun ex δ σ G H Qd Q hx S q k =>
  h1 ex δ σ G H _ _ hx S q fun b G1 H1 e1 q1 => k _ G1 H1 e1 q1
noncomputable def dAndV (da db : DE) (ex : DX) (δ : DEn) (Q : PyData → Prop) : Prop := da ex δ fun x => match x with
  | .bool b => if b = true then db ex δ Q else Q (.bool false)
  | _ => False
noncomputable def dNotV (da : DE) (ex : DX) (δ : DEn) (Q : PyData → Prop) : Prop := da ex δ fun x => match x with
  | .bool b => Q (.bool (!b))
  | _ => False
theorem ev_and (ha : BvD K H₀ E ta da) (hb : EvD K H₀ E tb db) : EvD K H₀ E (tAndV ta tb) (dAndV da db) := fun ex δ σ G H Qd Q hx S q k =>
  ha ex δ σ G H _ _ hx S q fun x dx G1 H1 e1 h1 q1 => by
    cases dx with
    | bool i =>
      cases dv_bl h1
      refine ⟨_, rfl, ?_⟩
      cases i with
      | true => exact hb ex δ σ G1 H1 _ _ hx (S.ext e1) q1 fun v d G2 H2 e2 hd q2 => k v d G2 H2 (e1.trans e2) hd q2
      | false => exact k _ _ G1 H1 e1 (.bl _) q1
    | _ => exact q1.elim
theorem ev_not (ha : BvD K H₀ E ta da) : EvD K H₀ E (tNotV ta) (dNotV da) := fun ex δ σ G H Qd Q hx S q k =>
  ha ex δ σ G H _ _ hx S q fun x dx G1 H1 e1 h1 q1 => by
    cases dx with
    | bool i =>
      cases dv_bl h1
      exact ⟨_, rfl, k _ _ G1 H1 e1 (.bl _) q1⟩
    | _ => exact q1.elim
noncomputable abbrev DW := List PyData → (Sl → Prop) → DX → Prop
noncomputable def rm (H : Hp) (a : Addr) : Hp := fun b => if b = a then none else H b
noncomputable def RetIs (K : PySem.W.Frag) (H H' : Hp) (v : V) : Sl → Prop
  | .dat d => DV K H' v d
  | .own ds => ∃ a vs, v = .ref a ∧ H a = none ∧ H' a = some (.lst vs) ∧ DVs K (rm H' a) vs ds
  | .exc _ => False
  | .fz _ _ => False
  | .two xs ys => ∃ t a b vs ws, v = .ref t ∧ SqT K H' t [.ref a, .ref b] ∧ a ≠ b ∧ H a = none ∧ H b = none ∧ H' a = some (.lst vs) ∧ H' b = some (.lst ws) ∧ DVs K (rm (rm H' a) b) vs xs ∧ DVs K (rm (rm H' a) b) ws ys
noncomputable def spW (K : PySem.W.Frag) (w : DW) : Sp := fun vs H Q E => ∃ ds Qd Ed, DVs K H vs ds ∧ w ds Qd Ed ∧ (∀ v s H', Same H H' → RetIs K H H' v s → Qd s → Q v H') ∧ (∀ C H', Same H H' → Ed C → E (.ref C) none H')
noncomputable def grow (G H H' : Hp) : Hp := fun b => match H b with
  | none => H' b
  | some _ => G b
theorem ext_grow {G H H' : Hp} (s : Sub G H) (h : Same H H') : Ext G H (grow G H H') H' := by
  refine ⟨fun b o z => ?_, h, fun b => ?_, fun b o z => ?_⟩
  · unfold grow
    rw [s.same b o z]
    exact z
  · unfold grow
    cases q : H b with
    | none => exact .inl rfl
    | some o =>
      dsimp only
      rw [h b o q]
      have := s b
      rw [q] at this
      exact this
  · unfold grow at z
    cases q : H b with
    | none => exact .inr rfl
    | some u => rw [q] at z; exact .inl z
theorem grow_flat {G H H' : Hp} (s : Sub G H) (h : Same H H') : ∀ b o, H' b = some o → (∀ xs, o ≠ .lst xs) → grow G H H' b = some o := fun b o e n => by
  unfold grow
  cases q : H b with
  | none => exact e
  | some u =>
    dsimp only
    have := h b u q
    rw [e] at this
    cases this
    exact s.other q n
noncomputable def flatS : (PyData → Prop) → Sl → Prop
  | Q, .dat d => flatD d = true ∧ Q d
  | Q, .own ds => flatDs ds = true ∧ Q (.list ds)
  | _, .exc _ => False
  | _, .fz _ _ => False
  | _, .two _ _ => False
noncomputable def ownS : (List PyData → Prop) → Sl → Prop
  | _, .dat _ => False
  | Q, .own ds => flatDs ds = true ∧ Q ds
  | _, .exc _ => False
  | _, .fz _ _ => False
  | _, .two _ _ => False
noncomputable def anyS : (PyData → Prop) → Sl → Prop
  | Q, .dat d => Q d
  | Q, .own ds => Q (.list ds)
  | _, .exc _ => False
  | _, .fz _ _ => False
  | Q, .two xs ys => Q (.tuple [.list xs, .list ys])
noncomputable def twoS : (List PyData → List PyData → Prop) → Sl → Prop
  | _, .dat _ => False
  | _, .own _ => False
  | _, .exc _ => False
  | _, .fz _ _ => False
  | Q, .two xs ys => flatDs xs = true ∧ flatDs ys = true ∧ Q xs ys
noncomputable def dCall (w : DW) (dl : DL) (ex : DX) (δ : DEn) (Q : PyData → Prop) : Prop := dl ex δ fun ds => w ds (flatS Q) ex
noncomputable def dCall0 (w : DW) (dl : DL) (ex : DX) (δ : DEn) (Q : PyData → Prop) : Prop := dl ex δ fun ds => w ds (flatS Q) fun _ => False
noncomputable def dCallO (w : DW) (dl : DL) (ex : DX) (δ : DEn) (Q : List PyData → Prop) : Prop := dl ex δ fun ds => w ds (ownS Q) ex
noncomputable def dCallO0 (w : DW) (dl : DL) (ex : DX) (δ : DEn) (Q : List PyData → Prop) : Prop := dl ex δ fun ds => w ds (ownS Q) fun _ => False
noncomputable def dCallB0 (w : DW) (dl : DL) (ex : DX) (δ : DEn) (Q : PyData → Prop) : Prop := dl ex δ fun ds => w ds (anyS Q) fun _ => False
theorem exok0 {H₀ : Hp} {E : XK} : ExOk H₀ E fun _ => False := fun _ _ _ z => z.elim
theorem ret_flat {G H H' : Hp} {v : V} {s : Sl} {Q : PyData → Prop} (hs : Sub G H) (h : Same H H') (r : RetIs K H H' v s) (q : flatS Q s) : ∃ d G', Ext G H G' H' ∧ DV K G' v d ∧ Q d := by
  cases s with
  | exc C => exact r.elim
  | fz _ _ => exact r.elim
  | two xs ys => exact q.elim
  | dat d => exact ⟨d, _, ext_grow hs h, dv_flat (grow_flat hs h) r q.1, q.2⟩
  | own ds =>
    obtain ⟨a, vs, rfl, hn, hh, hd⟩ := r
    have hd1 : DVs K H' vs ds := dvs_same (fun b o z => by
      unfold rm at z
      split at z
      · cases z
      · exact z) hd
    refine ⟨.list ds, _, ext_grow hs h, .lst (SqL.of ?_) (dvs_flat (grow_flat hs h) hd1 q.1), q.2⟩
    unfold grow
    rw [hn]
    exact hh
theorem ret_own {G H H' : Hp} {v : V} {s : Sl} {Q : List PyData → Prop} (hs : Sub G H) (h : Same H H') (r : RetIs K H H' v s) (q : ownS Q s) :
    ∃ a vs ds G', v = .ref a ∧ Ext G H G' H' ∧ H a = none ∧ G' a = none ∧ H' a = some (.lst vs) ∧ DVs K G' vs ds ∧ Q ds := by
  cases s with
  | exc C => exact r.elim
  | fz _ _ => exact r.elim
  | two xs ys => exact q.elim
  | dat d => exact q.elim
  | own ds =>
    obtain ⟨a, vs, rfl, hn, hh, hd⟩ := r
    have e := ext_grow hs h
    have hg : G a = none := hs.same.free hn
    refine ⟨a, vs, ds, rm (grow G H H') a, rfl, ⟨fun b o z => ?_, h, fun b => ?_, fun b o z => ?_⟩, hn, by unfold rm; rw [if_pos rfl], hh, dvs_flat (fun b o z n => ?_) hd q.1, q.2⟩
    · unfold rm
      rw [if_neg (ne_of_none z hg)]
      exact e.g b o z
    · unfold rm
      split
      · rename_i z; subst z
        exact .inr ⟨rfl, vs, hh⟩
      · exact e.s b
    · unfold rm at z
      split at z
      · cases z
      · exact e.n b o z
    · unfold rm at z ⊢
      split at z
      · cases z
      · rename_i hb
        rw [if_neg hb]
        exact grow_flat hs h b o z n
theorem rm2_same {H : Hp} {a b : Addr} : Same (rm (rm H a) b) H := fun c o z => by
  unfold rm at z
  split at z
  · cases z
  · split at z
    · cases z
    · exact z
theorem ret_any {H H' : Hp} {v : V} {s : Sl} {Q : PyData → Prop} (r : RetIs K H H' v s) (q : anyS Q s) : ∃ d, DV K H' v d ∧ Q d := by
  cases s with
  | exc C => exact r.elim
  | fz _ _ => exact r.elim
  | two xs ys =>
    obtain ⟨t, a, b, vs, ws, rfl, ht, hab, ha, hb, hh, hk, hd, he⟩ := r
    have sm : Same (rm (rm H' a) b) H' := rm2_same
    exact ⟨.tuple [.list xs, .list ys], .tup ht (.cons (.lst (SqL.of hh) (dvs_same sm hd)) (.cons (.lst (SqL.of hk) (dvs_same sm he)) .nil)), q⟩
  | dat d => exact ⟨d, r, q⟩
  | own ds =>
    obtain ⟨a, vs, rfl, hn, hh, hd⟩ := r
    exact ⟨.list ds, .lst (SqL.of hh) (dvs_same (fun b o z => by
      unfold rm at z
      split at z
      · cases z
      · exact z) hd), q⟩
section
variable {w : DW}
theorem call_use {E' : XK} {ex : DX} {δ : DEn} {σ : L2.St} {G H : Hp} {Q : VK} {QS : Sl → Prop} (ha : AvD K H₀ E t dl) (hx : ExOk H₀ E ex) (hx' : ∀ ex', ex' = ex ∨ ex' = (fun _ => False) → ExOk H₀ E' ex' ∨ True) (S : Sees K H₀ G δ σ H) (ex' : DX) (he : ExOk H₀ E' ex')
    (q : dl ex δ fun ds => w ds QS ex') (k : ∀ v s G1 H1 H2, Ext G H G1 H1 → Same H1 H2 → RetIs K H1 H2 v s → QS s → Q v H2) : tCall (spW K w) [] E' t σ H Q :=
  ha ex δ σ G H _ _ hx S q fun vs ds G1 H1 e1 h1 q1 => by
    refine ⟨ds, QS, ex', by rw [List.append_nil]; exact h1, q1, fun v s H2 sm r qs => k v s G1 H1 H2 e1 sm r qs, fun C H2 sm hc => he C H2 ((S.ext e1).oldH.trans sm) hc⟩
theorem ev_call (ha : AvD K H₀ E t dl) : EvD K H₀ E (tCall (spW K w) [] E t) (dCall w dl) := fun ex δ σ G H Qd Q hx S q k =>
  call_use ha hx (fun _ _ => .inr trivial) S ex hx q fun v s G1 H1 H2 e1 sm r qs => by
    obtain ⟨d, G', e2, hd, q2⟩ := ret_flat e1.s sm r qs
    exact k v d G' H2 (e1.trans e2) hd q2
theorem ev_call0 (ha : AvD K H₀ E t dl) : EvD K H₀ E (tCall (spW K w) [] E0 t) (dCall0 w dl) := fun ex δ σ G H Qd Q hx S q k =>
  call_use ha hx (fun _ _ => .inr trivial) S (fun _ => False) exok0 q fun v s G1 H1 H2 e1 sm r qs => by
    obtain ⟨d, G', e2, hd, q2⟩ := ret_flat e1.s sm r qs
    exact k v d G' H2 (e1.trans e2) hd q2
theorem ov_call (ha : AvD K H₀ E t dl) : OvD K H₀ E (tCall (spW K w) [] E t) (dCallO w dl) := fun ex δ σ G H Qd Q hx S q k =>
  call_use ha hx (fun _ _ => .inr trivial) S ex hx q fun v s G1 H1 H2 e1 sm r qs => by
    obtain ⟨a, vs, ds, G', rfl, e2, hn, hg, hh, hd, q2⟩ := ret_own e1.s sm r qs
    exact k a vs ds G' H2 (e1.trans e2) (e1.h.free hn) hg hh hd q2
theorem ov_call0 (ha : AvD K H₀ E t dl) : OvD K H₀ E (tCall (spW K w) [] E0 t) (dCallO0 w dl) := fun ex δ σ G H Qd Q hx S q k =>
  call_use ha hx (fun _ _ => .inr trivial) S (fun _ => False) exok0 q fun v s G1 H1 H2 e1 sm r qs => by
    obtain ⟨a, vs, ds, G', rfl, e2, hn, hg, hh, hd, q2⟩ := ret_own e1.s sm r qs
    exact k a vs ds G' H2 (e1.trans e2) (e1.h.free hn) hg hh hd q2
theorem bv_call0 (ha : AvD K H₀ E t dl) : BvD K H₀ E (tCall (spW K w) [] E0 t) (dCallB0 w dl) := fun ex δ σ G H Qd Q hx S q k =>
  call_use ha hx (fun _ _ => .inr trivial) S (fun _ => False) exok0 q fun v s G1 H1 H2 e1 sm r qs => by
    obtain ⟨d, hd, q2⟩ := ret_any r qs
    exact k v d _ H2 (e1.trans (ext_grow e1.s sm)) hd q2
end
end
structure DEnds where
  nx : DEn → Prop
  rt : Sl → Prop
  ex : DX
  bk : DEn → Prop := fun _ => False
  ct : DEn → Prop := fun _ => False
noncomputable abbrev DS := DEnds → DEn → Prop
structure Lk (K : PySem.W.Frag) (H₀ G : Hp) (e : DEnds) (D : Ends) : Prop where
  nx : ∀ δ σ G' H, Same G G' → Sees K H₀ G' δ σ H → e.nx δ → D.nx σ H
  rt : ∀ v s H, Same H₀ H → RetIs K H₀ H v s → e.rt s → D.rt v H
  bk : ∀ δ σ G' H, Same G G' → Sees K H₀ G' δ σ H → e.bk δ → D.bk σ H
  ct : ∀ δ σ G' H, Same G G' → Sees K H₀ G' δ σ H → e.ct δ → D.ct σ H
theorem Lk.mono {K : PySem.W.Frag} {H₀ G G1 : Hp} {e : DEnds} {D : Ends} (L : Lk K H₀ G e D) (s : Same G G1) : Lk K H₀ G1 e D :=
  ⟨fun δ σ G' H t => L.nx δ σ G' H (s.trans t), L.rt, fun δ σ G' H t => L.bk δ σ G' H (s.trans t), fun δ σ G' H t => L.ct δ σ G' H (s.trans t)⟩
noncomputable def SvD (K : PySem.W.Frag) (H₀ : Hp) (E : XK) (ts : TS) (ds : DS) : Prop := ∀ δ σ G H e D, ExOk H₀ E e.ex → Sees K H₀ G δ σ H → ds e δ → Lk K H₀ G e D → ts D σ H
noncomputable abbrev DG := PyData → DEn → (DEn → Prop) → Prop
noncomputable abbrev DGs := List PyData → DEn → (DEn → Prop) → Prop
noncomputable def Kp (ns : List Nat) (σ σ' : L2.St) : Prop := σ'.length = σ.length ∧ ∀ j, j ∉ ns → σ'[j]? = σ[j]?
noncomputable def GvD (K : PySem.W.Frag) (H₀ : Hp) (g : TG) (ns : List Nat) (dg : DG) : Prop := ∀ v d δ σ G H Qd Q, Sees K H₀ G δ σ H → DV K G v d → dg d δ Qd → (∀ δ' σ', Sees K H₀ G δ' σ' H → Kp ns σ σ' → Qd δ' → Q σ' H) → g v σ H Q
noncomputable def GsvD (K : PySem.W.Frag) (H₀ : Hp) (g : TGs) (ns : List Nat) (dg : DGs) : Prop := ∀ vs ds δ σ G H Qd Q, Sees K H₀ G δ σ H → DVs K G vs ds → dg ds δ Qd → (∀ δ' σ', Sees K H₀ G δ' σ' H → Kp ns σ σ' → Qd δ' → Q σ' H) → g vs σ H Q
section
variable {K : PySem.W.Frag} {H₀ : Hp} {E : XK} {te ta tb : TE} {da db de : DE} {dl dk : DL} {t : TA} {tt tu : TT} {dt du : DT} {ts tz : TS} {ds dz : DS} {g : TG} {dg : DG} {gs : TGs} {dgs : DGs} {ns ms : List Nat}
noncomputable def dNext (e : DEnds) (δ : DEn) : Prop := e.nx δ
noncomputable def dSeq (d1 d2 : DS) (e : DEnds) (δ : DEn) : Prop := d1 { e with nx := d2 e } δ
noncomputable def dCut (d1 d2 : DS) (e : DEnds) (δ : DEn) : Prop := ∃ I : DEn → Prop, d1 { e with nx := I } δ ∧ ∀ δ', I δ' → d2 e δ'
theorem sv_next : SvD K H₀ E tNext dNext := fun δ σ G H e D hx S q L => L.nx δ σ G H (Same.refl _) S q
theorem sv_seq (h1 : SvD K H₀ E ts ds) (h2 : SvD K H₀ E tz dz) : SvD K H₀ E (tSeq ts tz) (dSeq ds dz) := fun δ σ G H e D hx S q L =>
  h1 δ σ G H { e with nx := dz e } { D with nx := tz D } hx S q ⟨fun δ' σ' G' H' s S' q' => h2 δ' σ' G' H' e D hx S' q' (L.mono s), L.rt, L.bk, L.ct⟩
theorem sv_cut (h1 : SvD K H₀ E ts ds) (h2 : SvD K H₀ E tz dz) : SvD K H₀ E (tSeq ts tz) (dCut ds dz) := fun δ σ G H e D hx S ⟨I, q, qi⟩ L =>
  h1 δ σ G H { e with nx := I } { D with nx := tz D } hx S q ⟨fun δ' σ' G' H' s S' q' => h2 δ' σ' G' H' e D hx S' (qi δ' q') (L.mono s), L.rt, L.bk, L.ct⟩
noncomputable def dRet (de : DE) (e : DEnds) (δ : DEn) : Prop := de e.ex δ fun d => e.rt (.dat d)
noncomputable def dRetO (dl : DL) (e : DEnds) (δ : DEn) : Prop := dl e.ex δ fun ds => e.rt (.own ds)
noncomputable def dRetV (i : Nat) (e : DEnds) (δ : DEn) : Prop := match slot δ i with
  | some (.dat d) => e.rt (.dat d)
  | some (.own ds) => e.rt (.own ds)
  | _ => False
theorem ret_of_own {G H : Hp} {a : Addr} {vs : List V} {ds : List PyData} (h0 : H₀ a = none) (hg : G a = none) (s : Sub G H) (hh : H a = some (.lst vs)) (hd : DVs K G vs ds) : RetIs K H₀ H (.ref a) (.own ds) :=
  ⟨a, vs, rfl, h0, hh, dvs_same (fun b o z => by
    unfold rm
    rw [if_neg (ne_of_none z hg)]
    exact s.same b o z) hd⟩
theorem sv_ret (h : BvD K H₀ E te de) : SvD K H₀ E (tRet te) (dRet de) := fun δ σ G H e D hx S q L =>
  h e.ex δ σ G H _ _ hx S q fun v d G' H' x hd qd => L.rt v (.dat d) H' (S.ext x).oldH hd qd
theorem sv_retO (h : OvD K H₀ E te dl) : SvD K H₀ E (tRet te) (dRetO dl) := fun δ σ G H e D hx S q L =>
  h e.ex δ σ G H _ _ hx S q fun a vs ds G' H' x hn hg hh hd qd => L.rt (.ref a) (.own ds) H' (S.ext x).oldH (ret_of_own (S.oldH.free hn) hg x.s hh hd) qd
theorem sv_retV (i : Nat) : SvD K H₀ E (tRet (tVar i)) (dRetV i) := fun δ σ G H e D hx S q L => by
  unfold dRetV at q
  split at q
  · rename_i d hs
    obtain ⟨v, h1, h2⟩ := S.has i _ hs
    exact ⟨v, h1, L.rt v (.dat d) H S.oldH (dv_same S.sub.same h2) q⟩
  · rename_i ds hs
    obtain ⟨v, h1, h2⟩ := S.has i _ hs
    obtain ⟨a, vs, rfl, h3, h4, h5⟩ := h2
    exact ⟨_, h1, L.rt _ (.own ds) H S.oldH (ret_of_own (S.old.free h3) h3 S.sub h4 h5) q⟩
  · exact q.elim
noncomputable def dDrop (de : DE) (e : DEnds) (δ : DEn) : Prop := de e.ex δ fun _ => e.nx δ
theorem sv_expr (h : BvD K H₀ E te de) : SvD K H₀ E (tDrop te) (dDrop de) := fun δ σ G H e D hx S q L =>
  h e.ex δ σ G H _ _ hx S q fun v d G' H' x hd qd => L.nx δ σ G' H' x.g (S.ext x) qd
noncomputable def dIfS (dt : DT) (d1 d2 : DS) (e : DEnds) (δ : DEn) : Prop := dt e.ex δ fun b => if b = true then d1 e δ else d2 e δ
theorem sv_if (h : TvD K H₀ E tt dt) (h1 : SvD K H₀ E ts ds) (h2 : SvD K H₀ E tz dz) : SvD K H₀ E (tIfS tt ts tz) (dIfS dt ds dz) := fun δ σ G H e D hx S q L =>
  h e.ex δ σ G H _ _ hx S q fun b G' H' x qb => by
    cases b with
    | true => exact h1 δ σ G' H' e D hx (S.ext x) qb (L.mono x.g)
    | false => exact h2 δ σ G' H' e D hx (S.ext x) qb (L.mono x.g)
noncomputable def gvName (i : Nat) (d : PyData) (δ : DEn) (Q : DEn → Prop) : Prop := Q (put (some (.dat d)) i δ)
noncomputable def gvNil (ds : List PyData) (δ : DEn) (Q : DEn → Prop) : Prop := match ds with
  | [] => Q δ
  | _ => False
noncomputable def gvCons (dg : DG) (dgs : DGs) (ds : List PyData) (δ : DEn) (Q : DEn → Prop) : Prop := match ds with
  | d :: r => dg d δ fun δ' => dgs r δ' Q
  | [] => False
noncomputable def gvTup (n : Nat) (dgs : DGs) (d : PyData) (δ : DEn) (Q : DEn → Prop) : Prop := match d with
  | .tuple ds => ds.length = n ∧ dgs ds δ Q
  | _ => False
theorem gv_name (i : Nat) : GvD K H₀ (gName i) [i] (gvName i) := fun v d δ σ G H Qd Q S hd q k =>
  k _ _ (S.setD i hd) ⟨List.length_set, fun j hj => by rw [List.getElem?_set_ne (fun z => hj (by simp [z]))]⟩ q
theorem gs_nil : GsvD K H₀ gNil [] gvNil := fun vs ds δ σ G H Qd Q S hd q k => by
  unfold gvNil at q
  split at q
  · cases hd
    exact ⟨rfl, k δ σ S ⟨rfl, fun _ _ => rfl⟩ q⟩
  · exact q.elim
theorem gs_cons (h1 : GvD K H₀ g ns dg) (h2 : GsvD K H₀ gs ms dgs) : GsvD K H₀ (gCons g gs) (ns ++ ms) (gvCons dg dgs) := fun vs ds δ σ G H Qd Q S hd q k => by
  unfold gvCons at q
  split at q
  · cases hd with
    | cons hd hr =>
      refine ⟨_, _, rfl, h1 _ _ δ σ G H _ _ S hd q fun δ1 σ1 S1 k1 q1 => h2 _ _ δ1 σ1 G H _ _ S1 hr q1 fun δ2 σ2 S2 k2 q2 => k δ2 σ2 S2 ⟨k2.1.trans k1.1, fun j hj => ?_⟩ q2⟩
      rw [k2.2 j (fun z => hj (List.mem_append_right _ z)), k1.2 j (fun z => hj (List.mem_append_left _ z))]
  · exact q.elim
theorem gv_tup {n : Nat} (h : GsvD K H₀ gs ns dgs) : GvD K H₀ (gTup K n gs) ns (gvTup n dgs) := fun v d δ σ G H Qd Q S hd q k => by
  unfold gvTup at q
  split at q
  · obtain ⟨a, vs, rfl, h1, h2⟩ := dv_tuple hd
    exact ⟨a, vs, rfl, sqT_same S.sub.same h1, by rw [h2.len]; exact q.1, h _ _ δ σ G H _ _ S h2 q.2 k⟩
  · exact q.elim
noncomputable def dAsg (de : DE) (dg : DG) (e : DEnds) (δ : DEn) : Prop := de e.ex δ fun d => dg d δ e.nx
theorem sv_asg (h : EvD K H₀ E te de) (hg : GvD K H₀ g ns dg) : SvD K H₀ E (tAsg te g) (dAsg de dg) := fun δ σ G H e D hx S q L =>
  h e.ex δ σ G H _ _ hx S q fun v d G' H' x hd qd => hg v d δ σ G' H' _ _ (S.ext x) hd qd fun δ' σ' S' _ q' => L.nx δ' σ' G' H' x.g S' q'
noncomputable def dSetO (dl : DL) (i : Nat) (e : DEnds) (δ : DEn) : Prop := dl e.ex δ fun ds => e.nx (put (some (.own ds)) i δ)
theorem sv_setO (i : Nat) (h : OvD K H₀ E te dl) : SvD K H₀ E (tAsg te (gName i)) (dSetO dl i) := fun δ σ G H e D hx S q L =>
  h e.ex δ σ G H _ _ hx S q fun a vs ds G' H' x hn hg hh hd qd => L.nx _ _ G' H' x.g (S.setO x i hn hg hh hd) qd
noncomputable def noOwn : DEn → Bool
  | [] => true
  | some (.own _) :: _ => false
  | _ :: r => noOwn r
theorem noOwn_slot : ∀ {δ : DEn} {i : Nat} {ds : List PyData}, noOwn δ = true → slot δ i ≠ some (.own ds)
  | [], _, _, _, h => by cases h
  | some (.own _) :: _, _, _, h, _ => by cases h
  | some (.dat _) :: _, 0, _, _, h => by cases h
  | some (.exc _) :: _, 0, _, _, h => by cases h
  | some (.fz _ _) :: _, 0, _, _, h => by cases h
  | some (.fz _ _) :: r, i + 1, ds, h, e => noOwn_slot (δ := r) (i := i) (ds := ds) h e
  | some (.two _ _) :: _, 0, _, _, h => by cases h
  | some (.two _ _) :: r, i + 1, ds, h, e => noOwn_slot (δ := r) (i := i) (ds := ds) h e
  | none :: _, 0, _, _, h => by cases h
  | some (.exc _) :: r, i + 1, ds, h, e => noOwn_slot (δ := r) (i := i) (ds := ds) h e
  | some (.dat _) :: r, i + 1, ds, h, e => noOwn_slot (δ := r) (i := i) (ds := ds) h e
  | none :: r, i + 1, ds, h, e => noOwn_slot (δ := r) (i := i) (ds := ds) h e
theorem Sees.all2 {G H H' : Hp} {δ : DEn} {σ : L2.St} (S : Sees K H₀ G δ σ H) (h : noOwn δ = true) (sm : Same H H') : Sees K H₀ H' δ σ H' :=
  ⟨S.oldH.trans sm, .refl _, S.len, fun i s e => by
    obtain ⟨v, h1, h2⟩ := S.has i s e
    cases s with
    | dat d => exact ⟨v, h1, dv_same (S.sub.same.trans sm) h2⟩
    | two xs ys => exact h2.elim
    | fz as d => exact ⟨v, h1, FzIs.same (S.sub.same.trans sm) h2⟩
    | exc C =>
      obtain ⟨x, rfl, hx⟩ := h2
      exact ⟨_, h1, x, rfl, sm _ _ (S.sub.same _ _ hx)⟩
    | own ds => exact absurd e (noOwn_slot h), fun i j xs ys a e => absurd e (noOwn_slot h)⟩
noncomputable def dAsgN (w : DW) (dl : DL) (dg : DG) (e : DEnds) (δ : DEn) : Prop := dl e.ex δ fun ds => noOwn δ = true ∧ w ds (anyS fun d => dg d δ e.nx) e.ex
theorem sv_asgN {w : DW} (ha : AvD K H₀ E t dl) (hg : GvD K H₀ g ns dg) : SvD K H₀ E (tAsg (tCall (spW K w) [] E t) g) (dAsgN w dl dg) := fun δ σ G H e D hx S q L =>
  ha e.ex δ σ G H _ _ hx S q fun vs ds G1 H1 e1 h1 ⟨no, q1⟩ => by
    refine ⟨ds, _, e.ex, by rw [List.append_nil]; exact h1, q1, fun v s H2 sm r qs => ?_, fun C H2 sm hc => hx C H2 ((S.ext e1).oldH.trans sm) hc⟩
    obtain ⟨d, hd, q2⟩ := ret_any r qs
    exact hg v d δ σ H2 H2 _ _ ((S.ext e1).all2 no sm) hd q2 fun δ' σ' S' _ q' => L.nx δ' σ' H2 H2 ((S.ext e1).sub.same.trans sm |> fun z => e1.g.trans z) S' q'
noncomputable def frzAt (i : Nat) (δ : DEn) : DEn := match slot δ i with
  | some (.own ds) => put (some (.dat (.list ds))) i δ
  | _ => δ
noncomputable def dFrz (i : Nat) (d : DS) (e : DEnds) (δ : DEn) : Prop := d e (frzAt i δ)
theorem sv_frz (i : Nat) (h : SvD K H₀ E ts ds) : SvD K H₀ E ts (dFrz i ds) := fun δ σ G H e D hx S q L => by
  unfold dFrz frzAt at q
  split at q
  · rename_i xs hs
    obtain ⟨G', s, S'⟩ := S.frz hs
    exact h _ σ G' H e D hx S' q (L.mono s)
  · exact h δ σ G H e D hx S q L
noncomputable def dPar (i j : Nat) (dl : DL) (e : DEnds) (δ : DEn) : Prop := dl e.ex δ fun ds => match ds with
  | [d1, d2] => e.nx (put (some (.dat d2)) j (put (some (.dat d1)) i δ))
  | _ => False
theorem sv_par {n : Nat} (i j : Nat) (h : AvE K H₀ E t n dl) : SvD K H₀ E (tPar i j t) (dPar i j dl) := fun δ σ G H e D hx S q L =>
  h e.ex δ σ G H _ _ hx S q fun vs ds G' H' x hd _ qd => by
    split at qd
    · obtain ⟨v, w, rfl, h1, h2⟩ := dvs2 hd
      exact ⟨v, w, rfl, L.nx _ _ G' H' x.g (((S.ext x).setD i h1).setD j h2) qd⟩
    · exact qd.elim
noncomputable def dRaise (C : Addr) (dl : DL) (e : DEnds) (δ : DEn) : Prop := dl e.ex δ fun _ => e.ex C
theorem sv_raise {C : Addr} {n : Nat} (h : AvE K H₀ E t n dl) (hn : n ≤ 1000) : SvD K H₀ E (tRaise E C t) (dRaise C dl) := fun δ σ G H e D hx S q L =>
  h e.ex δ σ G H _ _ hx S q fun vs ds G' H' x hd q0 qd => ⟨Nat.le_of_lt (small1000 (by rw [hd.len, q0]; exact hn)), hx C H' (S.ext x).oldH qd⟩
noncomputable def dApp (i : Nat) (de : DE) (e : DEnds) (δ : DEn) : Prop := match slot δ i with
  | some (.own ds) => de e.ex δ fun d => ds.length < 1000 ∧ e.nx (put (some (.own (ds ++ [d]))) i δ)
  | _ => False
theorem sv_app (i : Nat) (h : EvD K H₀ E te de) : SvD K H₀ E (tDrop (tBM K "list" rAppend (tVar i) (tCons te tNil))) (dApp i de) := fun δ σ G H e D hx S q L => by
  unfold dApp at q
  split at q
  · rename_i ds hs
    obtain ⟨a, vs, h1, h2, h3, h4⟩ := S.ownAt hs
    refine ⟨_, h1, .inl ⟨rfl, _, SqL.of h3⟩, h e.ex δ σ G H _ _ hx S q fun v d G' H' x hd qd => ?_⟩
    obtain ⟨q1, q2⟩ := qd
    have S' := S.ext x
    exact ⟨a, vs, v, rfl, rfl, x.h _ _ h3, small1000 (by rw [h4.len]; omega), L.nx _ _ G' _ x.g (S'.updO hs h1 ((dvs_same x.g h4).append (.cons hd .nil))) q2⟩
  · exact q.elim
noncomputable def ItS (K : PySem.W.Frag) (J : It) (G : Hp) (ds : List PyData) : Prop := ∀ G' H', Same G G' → Sub G' H' → ∀ i,
  (∀ d, ds[i]? = some d → J.go i H' ∧ ∀ x H2, J.yld i H' x H2 → ∃ G2, Ext G' H' G2 H2 ∧ DV K G2 x d) ∧ (ds.length ≤ i → J.stop i H')
noncomputable def ItE (K : PySem.W.Frag) (J : It) (G H : Hp) (ds : List PyData) : Prop := ∀ G' H', Ext G H G' H' → ∀ i,
  (∀ d, ds[i]? = some d → J.go i H' ∧ ∀ x H2, J.yld i H' x H2 → ∃ G2, Ext G' H' G2 H2 ∧ DV K G2 x d) ∧ (ds.length ≤ i → J.stop i H')
theorem ItS.e {J : It} {G H : Hp} {ds : List PyData} (h : ItS K J G ds) : ItE K J G H ds := fun G' H' e => h G' H' e.g e.s
noncomputable def IvS (K : PySem.W.Frag) (H₀ : Hp) (E : XK) (wi : TI) (dl : DL) : Prop := ∀ ex δ σ G H Qd R, ExOk H₀ E ex → Sees K H₀ G δ σ H → dl ex δ Qd → (∀ J ds G' H', Ext G H G' H' → ItS K J G' ds → Qd ds → R J H') → wi σ H R
noncomputable def IvE (K : PySem.W.Frag) (H₀ : Hp) (E : XK) (wi : TI) (dl : DL) : Prop := ∀ ex δ σ G H Qd R, ExOk H₀ E ex → Sees K H₀ G δ σ H → dl ex δ Qd → (∀ J ds G' H', Ext G H G' H' → ItE K J G' H' ds → Qd ds → R J H') → wi σ H R
theorem IvS.e {wi : TI} (h : IvS K H₀ E wi dl) : IvE K H₀ E wi dl := fun ex δ σ G H Qd R hx S q k => h ex δ σ G H Qd R hx S q fun J ds G' H' e hi qd => k J ds G' H' e hi.e qd
theorem is_list (h : EvD K H₀ E te de) : IvS K H₀ E (iList K te) (dAsL de) := fun ex δ σ G H Qd R hx S q k =>
  h ex δ σ G H _ _ hx S q fun v d G' H' e hd qd => by
    cases d with
    | list ds =>
      obtain ⟨a, vs, rfl, h1, h2⟩ := dv_list hd
      refine ⟨a, rfl, ⟨vs, e.s.same.seq h1⟩, k _ ds G' H' e (fun G2 H2 s1 s2 i => ⟨fun d hi => ?_, fun hi => ⟨vs, s2.same.seq (s1.seq h1), by rw [h2.len]; exact hi⟩⟩) qd⟩
      obtain ⟨x, g1, g2⟩ := h2.at hi
      refine ⟨⟨vs, x, s2.same.seq (s1.seq h1), g1⟩, fun y H3 ⟨z, w⟩ => ?_⟩
      subst z
      have := w vs (s2.same.seq (s1.seq h1))
      rw [g1] at this
      cases this
      exact ⟨G2, .refl s2, dv_same s1 g2⟩
    | _ => exact qd.elim
theorem ie_list (h : LvD K H₀ E te dl) : IvE K H₀ E (iList K te) dl := fun ex δ σ G H Qd R hx S q k =>
  h ex δ σ G H _ _ hx S q fun a vs ds G' H' e h1 h2 qd => by
    refine ⟨a, rfl, ⟨vs, h1⟩, k _ ds G' H' e (fun G2 H2 e2 i => ⟨fun d hi => ?_, fun hi => ⟨vs, e2.h.seq h1, by rw [h2.len]; exact hi⟩⟩) qd⟩
    obtain ⟨x, g1, g2⟩ := h2.at hi
    refine ⟨⟨vs, x, e2.h.seq h1, g1⟩, fun y H3 ⟨z, w⟩ => ?_⟩
    subst z
    have := w vs (e2.h.seq h1)
    rw [g1] at this
    cases this
    exact ⟨G2, .refl e2.s, dv_same e2.g g2⟩
noncomputable def rngD (lo : Int) (n : Nat) (st : Int) : List PyData := (List.range n).map fun (k : Nat) => PyData.int (lo + (k : Int) * st)
theorem rngD_at {lo st : Int} {n i : Nat} {d : PyData} (h : (rngD lo n st)[i]? = some d) : i < n ∧ d = .int (lo + (i : Int) * st) := by
  unfold rngD at h
  rw [List.getElem?_map] at h
  cases q : (List.range n)[i]? with
  | none => rw [q] at h; cases h
  | some k =>
    rw [q] at h
    obtain ⟨h1, h2⟩ := List.getElem?_eq_some_iff.mp q
    simp only [List.getElem_range] at h2
    subst h2
    simp only [List.length_range] at h1
    simp only [Option.map_some, Option.some.injEq] at h
    exact ⟨h1, h.symm⟩
theorem rngD_len {lo st : Int} {n : Nat} : (rngD lo n st).length = n := by simp [rngD]
noncomputable def dRng1 (dl : DL) (ex : DX) (δ : DEn) (Q : List PyData → Prop) : Prop := dl ex δ fun ds => match ds with
  | [.int j] => (-(2 ^ 62) ≤ j ∧ j < 2 ^ 62) ∧ Q (rngD 0 j.toNat 1)
  | _ => False
noncomputable def dRng2 (dl : DL) (ex : DX) (δ : DEn) (Q : List PyData → Prop) : Prop := dl ex δ fun ds => match ds with
  | [.int i, .int j] => (-(2 ^ 62) ≤ i ∧ i < 2 ^ 62 ∧ -(2 ^ 62) ≤ j ∧ j < 2 ^ 62) ∧ Q (rngD i (j - i).toNat 1)
  | _ => False
theorem itS_r {lo : Int} {n : Nat} {G : Hp} : ItS K (Itr lo n) G (rngD lo n 1) := fun G' H' s1 s2 i => ⟨fun d hi => by
    obtain ⟨h1, rfl⟩ := rngD_at hi
    refine ⟨h1, fun x H2 ⟨e1, e2⟩ => ?_⟩
    subst e1 e2
    rw [Int.mul_one]
    exact ⟨G', .refl s2, .int _⟩, fun hi => by rw [rngD_len] at hi; exact hi⟩
theorem is_rng1 (h : AvD K H₀ E t dl) : IvS K H₀ E (iRng1 t) (dRng1 dl) := fun ex δ σ G H Qd R hx S q k =>
  h ex δ σ G H _ _ hx S q fun vs ds G' H' e hd qd => by
    split at qd
    · obtain ⟨x, rfl, h1⟩ := dvs1 hd
      cases dv_int h1
      exact ⟨_, rfl, qd.1.1, qd.1.2, k _ _ G' H' e itS_r qd.2⟩
    · exact qd.elim
theorem is_rng2 (h : AvD K H₀ E t dl) : IvS K H₀ E (iRng2 t) (dRng2 dl) := fun ex δ σ G H Qd R hx S q k =>
  h ex δ σ G H _ _ hx S q fun vs ds G' H' e hd qd => by
    split at qd
    · obtain ⟨x, y, rfl, h1, h2⟩ := dvs2 hd
      cases dv_int h1; cases dv_int h2
      exact ⟨_, _, rfl, qd.1, k _ _ G' H' e itS_r qd.2⟩
    · exact qd.elim
noncomputable def dFor (dl : DL) (dg : DG) (db : DS) (e : DEnds) (δ : DEn) : Prop := dl e.ex δ fun ds => ∃ I : Nat → DEn → Prop, I 0 δ ∧
  (∀ i d δ', ds[i]? = some d → I i δ' → dg d δ' fun δ2 => db { e with nx := I (i + 1), ct := I (i + 1), bk := e.nx } δ2) ∧ ∀ δ', I ds.length δ' → e.nx δ'
theorem sv_for {wi : TI} (hi : IvS K H₀ E wi dl) (hg : GvD K H₀ g ns dg) (hb : SvD K H₀ E ts ds) : SvD K H₀ E (tFor wi g ts) (dFor dl dg ds) := fun δ σ G H e D hx S q L =>
  hi e.ex δ σ G H _ _ hx S q fun J xs G1 H1 e1 it ⟨I, i0, step, fin⟩ => by
    refine ⟨fun i m σ H => m = xs.length - i ∧ i ≤ xs.length ∧ ∃ δ' G', Same G1 G' ∧ Sees K H₀ G' δ' σ H ∧ I i δ', ⟨_, rfl, Nat.zero_le _, δ, G1, Same.refl _, S.ext e1, i0⟩, ?_⟩
    rintro i m σ' H' ⟨rfl, hil, δ', G', sg, S', hI⟩
    obtain ⟨t1, t2⟩ := it G' H' sg S'.sub i
    by_cases hlt : i < xs.length
    · obtain ⟨g1, g2⟩ := t1 _ (List.getElem?_eq_getElem hlt)
      refine .inr ⟨g1, fun σ H => ∃ δ' G', Same G1 G' ∧ Sees K H₀ G' δ' σ H ∧ I (i + 1) δ', fun σ2 H2 z => ⟨_, by omega, rfl, hlt, z⟩, fun x H2 y => ?_⟩
      obtain ⟨G2, e2, hd⟩ := g2 x H2 y
      have S2 := S'.ext e2
      refine hg x _ δ' σ' G2 H2 _ _ S2 hd (step i _ δ' (List.getElem?_eq_getElem hlt) hI) fun δ3 σ3 S3 _ q3 => ?_
      have up : Same G1 G2 := sg.trans e2.g
      exact hb δ3 σ3 G2 H2 { e with nx := I (i + 1), ct := I (i + 1), bk := e.nx } _ hx S3 q3 ⟨fun δ4 σ4 G4 H4 s4 S4 q4 => ⟨δ4, G4, up.trans s4, S4, q4⟩, L.rt, fun δ4 σ4 G4 H4 s4 S4 q4 => L.nx δ4 σ4 G4 H4 (e1.g.trans (up.trans s4)) S4 q4, fun δ4 σ4 G4 H4 s4 S4 q4 => ⟨δ4, G4, up.trans s4, S4, q4⟩⟩
    · have : i = xs.length := by omega
      subst this
      exact .inl ⟨t2 (Nat.le_refl _), L.nx δ' σ' G' H' (e1.g.trans sg) S' (fin δ' hI)⟩
noncomputable def dWhile (dt : DT) (db : DS) (e : DEnds) (δ : DEn) : Prop := ∃ I : Nat → DEn → Prop, (∃ m, I m δ) ∧ ∀ m δ', I m δ' →
  dt e.ex δ' fun b => if b = true then db { e with nx := fun δ2 => ∃ k, k < m ∧ I k δ2, ct := fun δ2 => ∃ k, k < m ∧ I k δ2, bk := e.nx } δ' else e.nx δ'
theorem sv_while (h : TvD K H₀ E tt dt) (hb : SvD K H₀ E ts ds) : SvD K H₀ E (tWhile tt ts) (dWhile dt ds) := fun δ σ G H e D hx S ⟨I, ⟨m0, i0⟩, step⟩ L => by
  refine ⟨fun m σ H => ∃ δ' G', Same G G' ∧ Sees K H₀ G' δ' σ H ∧ I m δ', ⟨m0, δ, G, Same.refl _, S, i0⟩, ?_⟩
  rintro m σ' H' ⟨δ', G', sg, S', hI⟩
  refine h e.ex δ' σ' G' H' _ _ hx S' (step m δ' hI) fun b G2 H2 e2 q2 => ?_
  have S2 := S'.ext e2
  have up : Same G G2 := sg.trans e2.g
  cases b with
  | true =>
    have n1 : ∀ δ4 σ4 G4 H4, Same G2 G4 → Sees K H₀ G4 δ4 σ4 H4 → (∃ k, k < m ∧ I k δ4) → ∃ k, k < m ∧ ∃ δ' G', Same G G' ∧ Sees K H₀ G' δ' σ4 H4 ∧ I k δ' := fun δ4 σ4 G4 H4 s4 S4 ⟨k, hk, q4⟩ => ⟨k, hk, δ4, G4, up.trans s4, S4, q4⟩
    exact ⟨fun σ4 H4 => ∃ k, k < m ∧ ∃ δ' G', Same G G' ∧ Sees K H₀ G' δ' σ4 H4 ∧ I k δ', fun _ _ z => z, hb δ' σ' G2 H2 { e with nx := fun δ2 => ∃ k, k < m ∧ I k δ2, ct := fun δ2 => ∃ k, k < m ∧ I k δ2, bk := e.nx } _ hx S2 q2 ⟨n1, L.rt, fun δ4 σ4 G4 H4 s4 S4 q4 => L.nx δ4 σ4 G4 H4 (up.trans s4) S4 q4, n1⟩⟩
  | false => exact L.nx δ' σ' G2 H2 up S2 q2
noncomputable def capD (cap : List (Option Nat)) (δ : DEn) : DEn := match cap with
  | [] => []
  | none :: r => none :: capD r δ
  | some i :: r => slot δ i :: capD r δ
theorem capD_len : ∀ (cap : List (Option Nat)) (δ : DEn), (capD cap δ).length = cap.length
  | [], _ => rfl
  | none :: r, δ => by simp [capD, capD_len r δ]
  | some i :: r, δ => by simp [capD, capD_len r δ]
theorem capD_slot : ∀ {cap : List (Option Nat)} {δ : DEn} {j : Nat} {s : Sl}, slot (capD cap δ) j = some s → ∃ i, cap[j]? = some (some i) ∧ slot δ i = some s
  | [], _, _, _, h => by cases h
  | none :: r, δ, 0, s, h => by cases h
  | some i :: r, δ, 0, s, h => ⟨i, rfl, h⟩
  | none :: r, δ, j + 1, s, h => by
    obtain ⟨i, h1, h2⟩ := capD_slot (cap := r) (δ := δ) (j := j) h
    exact ⟨i, by simpa using h1, h2⟩
  | some _ :: r, δ, j + 1, s, h => by
    obtain ⟨i, h1, h2⟩ := capD_slot (cap := r) (δ := δ) (j := j) h
    exact ⟨i, by simpa using h1, h2⟩
theorem cap_mem {cap : List (Option Nat)} {j i : Nat} (h : cap[j]? = some (some i)) : i ∈ cap.filterMap id := List.mem_filterMap.mpr ⟨some i, List.mem_of_getElem? h, rfl⟩
theorem cap_inj : ∀ {cap : List (Option Nat)} {j k i : Nat}, (cap.filterMap id).Nodup → cap[j]? = some (some i) → cap[k]? = some (some i) → j = k
  | [], _, _, _, _, h, _ => by simp at h
  | none :: r, 0, _, _, _, h, _ => by simp at h
  | none :: r, _ + 1, 0, _, _, _, h => by simp at h
  | none :: r, j + 1, k + 1, i, n, h1, h2 => congrArg (· + 1) (cap_inj (cap := r) (by simpa using n) (by simpa using h1) (by simpa using h2))
  | some a :: r, 0, 0, _, _, _, _ => rfl
  | some a :: r, 0, k + 1, i, n, h1, h2 => by
    have e : a = i := by simpa using h1
    subst e
    have : a ∈ r.filterMap id := cap_mem (by simpa using h2)
    simp only [List.filterMap_cons, id, List.nodup_cons] at n
    exact absurd this n.1
  | some a :: r, j + 1, 0, i, n, h1, h2 => by
    have e : a = i := by simpa using h2
    subst e
    have : a ∈ r.filterMap id := cap_mem (by simpa using h1)
    simp only [List.filterMap_cons, id, List.nodup_cons] at n
    exact absurd this n.1
  | some a :: r, j + 1, k + 1, i, n, h1, h2 => congrArg (· + 1) (cap_inj (cap := r) (by
      simp only [List.filterMap_cons, id, List.nodup_cons] at n
      exact n.2) (by simpa using h1) (by simpa using h2))
noncomputable def CapSt (cap : List (Option Nat)) (σ σc : L2.St) : Prop := σc.length = cap.length ∧ ∀ (j i : Nat), cap[j]? = some (some i) → σc[j]? = some ((σ[i]?).bind id)
theorem capst0 {cap : List (Option Nat)} {σ : L2.St} : CapSt cap σ (capσ cap σ) := ⟨by simp [capσ], fun j i h => by
  unfold capσ
  rw [List.getElem?_map, h]
  rfl⟩
theorem capSees {cap : List (Option Nat)} {G H G' H' : Hp} {δ : DEn} {σ σc : L2.St} (S : Sees K H₀ G δ σ H) (e : Ext G H G' H') (hn : (cap.filterMap id).Nodup) (c : CapSt cap σ σc) : Sees K H₀ G' (capD cap δ) σc H' := by
  have S' := S.ext e
  refine ⟨S'.old, S'.sub, by rw [capD_len, c.1]; exact Nat.le_refl _, fun j s h => ?_, fun j k xs ys a h1 h2 e1 e2 => ?_⟩
  · obtain ⟨i, h1, h2⟩ := capD_slot h
    obtain ⟨v, h3, h4⟩ := S'.has i s h2
    refine ⟨v, ?_, h4⟩
    rw [c.2 j i h1, h3]
    rfl
  · obtain ⟨i, g1, g2⟩ := capD_slot h1
    obtain ⟨i', g3, g4⟩ := capD_slot h2
    obtain ⟨b, _, q1, _⟩ := S'.ownAt g2
    obtain ⟨b', _, q2, _⟩ := S'.ownAt g4
    rw [c.2 j i g1, q1] at e1
    rw [c.2 k i' g3, q2] at e2
    have z1 : b = a := by cases e1; rfl
    have z2 : b' = a := by cases e2; rfl
    subst z1; subst z2
    have := S'.sep i i' xs ys _ g2 g4 q1 q2
    subst this
    exact cap_inj hn g1 g3
noncomputable def dYes (_ex : DX) (_δ : DEn) (Q : Bool → Prop) : Prop := Q true
theorem tv_yes : TvD K H₀ E tYes dYes := fun ex δ σ G H Qd Q hx S q k => k true G H S.refl q
noncomputable def dLC (dl : DL) (cap : List (Option Nat)) (dg : DG) (dt : DT) (de : DE) (ex : DX) (δ : DEn) (Q : List PyData → Prop) : Prop := dl ex δ fun ds => ds.length ≤ 1000 ∧ ∃ I : Nat → List PyData → Prop, I 0 [] ∧
  (∀ i d acc, ds[i]? = some d → I i acc → dg d (capD cap δ) fun δ2 => dt (fun _ => False) δ2 fun b => if b = true then de (fun _ => False) δ2 fun y => I (i + 1) (acc ++ [y]) else I (i + 1) acc) ∧ ∀ acc, I ds.length acc → Q acc
theorem ov_lc {wi : TI} {cap : List (Option Nat)} (hi : IvE K H₀ E wi dl) (hg : GvD K H₀ g ns dg) (ht : TvD K H₀ E tt dt) (he : EvD K H₀ E te de) (hn : (cap.filterMap id).Nodup) (hns : ns.all (fun j => (cap[j]?.bind id).isNone) = true) : OvD K H₀ E (tLC wi cap g tt te) (dLC dl cap dg dt de) := fun ex δ σ G H Qd Q hx S q k =>
  hi ex δ σ G H _ _ hx S q fun J xs G1 H1 e1 it ⟨hlen, I, i0, step, fin⟩ => by
    intro D hD
    obtain ⟨eD, gD⟩ := ext_newL (xs := []) e1.s hD
    refine ⟨fun i m σc Hc => m = xs.length - i ∧ i ≤ xs.length ∧ CapSt cap σ σc ∧ ∃ G' acc ys, Ext G1 H1 G' Hc ∧ G' D = none ∧ Hc D = some (.lst ys) ∧ DVs K G' ys acc ∧ acc.length ≤ i ∧ I i acc,
      ⟨_, rfl, Nat.zero_le _, capst0, G1, [], [], eD, gD, upd_same, .nil, Nat.le_refl _, i0⟩, ?_⟩
    rintro i m σc Hc ⟨rfl, hil, cs, G', acc, ys, e', gd, hd, hv, hal, hI⟩
    obtain ⟨t1, t2⟩ := it G' Hc e' i
    by_cases hlt : i < xs.length
    · obtain ⟨g1, g2⟩ := t1 _ (List.getElem?_eq_getElem hlt)
      refine .inr ⟨g1, fun σ2 H2 => CapSt cap σ σ2 ∧ ∃ G' acc ys, Ext G1 H1 G' H2 ∧ G' D = none ∧ H2 D = some (.lst ys) ∧ DVs K G' ys acc ∧ acc.length ≤ i + 1 ∧ I (i + 1) acc, fun σ2 H2 z => ⟨_, by omega, rfl, hlt, z⟩, fun x H2 y => ?_⟩
      obtain ⟨G2, e2, hx2⟩ := g2 x H2 y
      have S2 : Sees K H₀ G2 (capD cap δ) σc H2 := capSees S (e1.trans (e'.trans e2)) hn cs
      refine hg x _ _ σc G2 H2 _ _ S2 hx2 (step i _ acc (List.getElem?_eq_getElem hlt) hI) fun δ3 σ3 S3 kp q3 => ?_
      have cs3 : CapSt cap σ σ3 := ⟨kp.1.trans cs.1, fun j z hj => by
        rw [kp.2 j (fun hm => by
          have := List.all_eq_true.mp hns j hm
          rw [hj] at this
          cases this)]
        exact cs.2 j z hj⟩
      refine ht (fun _ => False) δ3 σ3 G2 H2 _ _ exok0 S3 q3 fun b G4 H4 e4 q4 => ?_
      cases b with
      | true =>
        refine he (fun _ => False) δ3 σ3 G4 H4 _ _ exok0 (S3.ext e4) q4 fun y dy G5 H5 e5 hy q5 => ?_
        have e25 : Ext G' Hc G5 H5 := e2.trans (e4.trans e5)
        have gd5 : G5 D = none := e25.keep gd hd
        have hd5 : H5 D = some (.lst ys) := e25.h _ _ hd
        have e15 : Ext G1 H1 G5 H5 := e'.trans e25
        refine ⟨ys, hd5, small1000 (by rw [hv.len]; omega), cs3, G5, acc ++ [dy], ys ++ [y], ⟨e15.g, fun b o z => ?_, fun b => ?_, e15.n⟩, gd5, upd_same, (dvs_same e25.g hv).append (.cons hy .nil), by rw [List.length_append]; simp; exact hal, q5⟩
        · rw [upd_ne (ne_of_none z hD)]; exact e15.h b o z
        · by_cases w : b = D
          · subst w; exact .inr ⟨gd5, _, upd_same⟩
          · rw [upd_ne w]; exact e15.s b
      | false =>
        have e24 : Ext G' Hc G4 H4 := e2.trans e4
        exact ⟨cs3, G4, acc, ys, e'.trans e24, e24.keep gd hd, e24.h _ _ hd, dvs_same e24.g hv, Nat.le_succ_of_le hal, q4⟩
    · have : i = xs.length := by omega
      subst this
      exact .inl ⟨t2 (Nat.le_refl _), k D ys acc G' Hc (e1.trans e') (e1.h.free hD) gd hd hv (fin acc hI)⟩
end
noncomputable def startN : List Str → List PyData → DEn
  | [], _ => []
  | _ :: N, [] => none :: startN N []
  | _ :: N, d :: ds => some (.dat d) :: startN N ds
theorem startN_len : ∀ (N : List Str) (ds : List PyData), (startN N ds).length = N.length
  | [], _ => rfl
  | _ :: N, [] => congrArg (· + 1) (startN_len N [])
  | _ :: N, _ :: ds => congrArg (· + 1) (startN_len N ds)
theorem startN_slot : ∀ {N : List Str} {ds : List PyData} {i : Nat} {s : Sl}, slot (startN N ds) i = some s → ∃ d, ds[i]? = some d ∧ s = .dat d
  | [], _, _, _, h => by cases h
  | _ :: N, [], 0, _, h => by cases h
  | _ :: N, [], i + 1, s, h => by
    obtain ⟨d, h1, _⟩ := startN_slot (N := N) (ds := []) (i := i) h
    simp at h1
  | _ :: N, d :: ds, 0, s, h => by cases h; exact ⟨d, rfl, rfl⟩
  | _ :: N, _ :: ds, i + 1, s, h => by
    obtain ⟨d, h1, h2⟩ := startN_slot (N := N) (ds := ds) (i := i) h
    exact ⟨d, by simpa using h1, h2⟩
theorem sees_start {K : PySem.W.Frag} {H : Hp} {N : List Str} {vs : List V} {ds : List PyData} (h : DVs K H vs ds) : Sees K H H (startN N ds) (L2.start N vs) H := by
  refine ⟨Same.refl _, .refl _, ?_, fun i s e => ?_, fun i j xs ys a e => ?_⟩
  · rw [startN_len]
    simp only [L2.start, List.length_append, List.length_map, List.length_replicate]
    omega
  · obtain ⟨d, h1, rfl⟩ := startN_slot e
    obtain ⟨v, h2, h3⟩ := h.at h1
    refine ⟨v, ?_, h3⟩
    unfold L2.start
    rw [List.getElem?_append_left (by rw [List.length_map]; exact (List.getElem?_eq_some_iff.mp h2).1), List.getElem?_map, h2]
    rfl
  · obtain ⟨d, _, z⟩ := startN_slot e
    cases z
section
variable {P : Program} {w : World} {K : PySem.W.Frag} {mg : Str → Option Value} {base : Heap}
theorem okW {x qual : Str} {st : Stmt} {f : Addr} {fd : FuncData} {N ps : List Str} {k : Nat} {W : DW} (F : Fun K x qual st f fd) (S : FnScope N ps (defScope st)) (len : ∀ ds Q E, W ds Q E → ds.length = ps.length)
    (hbody : ∀ (cdv : Value) (A : Around) (outer : List Env) (s : Shared) (H : Hp) (E : XK), Room k (A.deeper (envOfC qual (defScope st) s.heap.objs.size f cdv)) →
      ∃ t, PSs (cxOf (CXE P w) P w K mg base N qual (defScope st) f cdv A outer s H E) (defBody st) t ∧ ∃ d, SvD K H E t d ∧ ∀ ds Q X, W ds Q X → d { nx := fun _ => Q (.dat .none), rt := Q, ex := X } (startN N ds)) : FnOk P w K mg base (CXE P w) (k + 1) f fd ps (spW K W) := by
  refine okE F S (fun vs H Q E h => ?_) (fun cdv A outer s H vs Q E hr h => ?_)
  · obtain ⟨ds, Qd, Ed, h1, h2, _⟩ := h
    rw [h1.len]; exact len _ _ _ h2
  · obtain ⟨ds, Qd, Ed, h1, h2, h3, h4⟩ := h
    obtain ⟨t, ht, d, hd, hq⟩ := hbody cdv A outer s H E hr
    refine ⟨t, ht, hd _ _ H H { nx := fun _ => Qd (.dat .none), rt := Qd, ex := Ed } _ h4 (sees_start h1) (hq ds Qd Ed h2) ⟨fun δ σ G H' _ S q => ?_, fun v s H' sm r q => h3 v s H' sm r q, fun _ _ _ _ _ _ z => z.elim, fun _ _ _ _ _ _ z => z.elim⟩⟩
    exact h3 .non (.dat .none) H' S.oldH .non q
end
noncomputable def kinds : List String := ["int", "bool", "str", "list", "tuple"]
theorem kit_of {K : PySem.W.Frag} (d : PyData) (n : String) (hn : kinds.contains n = true) : PySem.W.kitOne K (.type (tyD d)) (.type n) = some (isD n d) := by
  have hm : n = "int" ∨ n = "bool" ∨ n = "str" ∨ n = "list" ∨ n = "tuple" := by
    simpa [kinds] using hn
  have ht : tyD d = "NoneType" ∨ tyD d = "bool" ∨ tyD d = "int" ∨ tyD d = "str" ∨ tyD d = "list" ∨ tyD d = "tuple" ∨ tyD d = "dict" := by
    cases d <;> simp [tyD]
  have key : ∀ t n : String, t ≠ n → (PySem.W.kitOne K (.type t) (.type n) = PySem.W.kitCls K (.type t) (.type n)) := fun t n h => by
    unfold PySem.W.kitOne
    rw [if_neg (by simpa using h)]
  have same : ∀ n : String, PySem.W.kitOne K (.type n) (.type n) = some true := fun n => by
    unfold PySem.W.kitOne
    rw [if_pos (by simp)]
  unfold isD
  generalize tyD d = t at ht
  clear hn
  rcases ht with rfl | rfl | rfl | rfl | rfl | rfl | rfl <;> rcases hm with rfl | rfl | rfl | rfl | rfl <;>
    first
    | exact same _
    | (rw [key _ _ (by decide)]
       unfold PySem.W.kitCls PySem.W.subIn
       dsimp only
       rw [if_pos (by decide +kernel)]
       decide +kernel)
section
variable {X : Cx} {pins : List (Addr × Obj)} {σ : L2.St} {H : Hp} {s : Shared}
theorem isi_dv {A : Around} {Q : Value → Shared → Prop} {Ee : Value → Shared → Prop} {x : V} {d : PyData} {u c : Value} {b : Bool} (I : Inv X pins σ H s) (rx : RelV x u) (h : DV X.K H x d) (e : PySem.W.kitOne X.K (.type (tyD d)) c = some b) (hq : ∀ tk, Q (.bool b) { s with toks := tk }) :
    wpAny (model X.prog X.w) A (call (.builtin "isinstance") [u, c]) Q Ee s := by
  cases h with
  | non => exact isinst_ok I rx .non e hq
  | bl y => exact isinst_ok I rx (.bl y) e hq
  | int y => exact isinst_ok I rx (.int y) e hq
  | str y => exact isinst_ok I rx (.str y) e hq
  | @lst a xs ds hs hd =>
    cases (show u = Value.ref a from rx)
    obtain ⟨its, r, ⟨o, n, ho, hc, _, _⟩, _⟩ := I.list hs
    exact PySem.W.kia_one PySem.W.kitx_list I.kIn ⟨o, ho, hc⟩ e (fun z => nomatch z) hq
  | @tup a xs ds hs hd =>
    cases (show u = Value.ref a from rx)
    obtain ⟨its, r, ⟨o, ho, hc, n, _⟩, _⟩ := I.tuple hs
    exact PySem.W.kia_one PySem.W.kitx_tuple I.kIn ⟨o, ho, hc⟩ e (fun z => nomatch z) hq
  | dct hd => exact isinst_ok I rx (.dK hd) e hq
noncomputable def rIsi (K : PySem.W.Frag) : List V → Hp → VK → Prop := fun xs H Q => ∃ x d n, xs = [x, .ty n] ∧ kinds.contains n = true ∧ DV K H x d ∧ Q (.bl (isD n d)) H
theorem isiDK {K : PySem.W.Frag} (hK : X.K = K) : CallR X (.builtin "isinstance") (rIsi K) := by
  subst hK
  intro pins s σ H xs us Q I r h
  obtain ⟨x, d, n, rfl, hn, hd, q⟩ := h
  obtain ⟨u, v, rfl, ru, rv⟩ := vals2 r
  cases (show v = Value.type n from rv)
  exact isi_dv I ru hd (kit_of d n hn) fun tk => ⟨.bl _, H, I.tok tk, rfl, q⟩
end
section
variable {K : PySem.W.Frag} {H₀ : Hp} {E : XK} {te ta tb : TE} {da db de : DE} {dl dk : DL} {t : TA}
noncomputable def dIsi (n : String) (de : DE) (ex : DX) (δ : DEn) (Q : PyData → Prop) : Prop := de ex δ fun d => Q (.bool (isD n d))
theorem ev_isi {n : String} (hn : kinds.contains n = true) (h : BvD K H₀ E te de) : EvD K H₀ E (tCB (rIsi K) (tCons te (tCons (tC (.ty n)) tNil))) (dIsi n de) := fun ex δ σ G H Qd Q hx S q k =>
  h ex δ σ G H _ _ hx S q fun x d G1 H1 e1 h1 q1 => ⟨x, d, n, rfl, hn, h1, k _ _ G1 H1 e1 (.bl _) q1⟩
noncomputable def MvD (K : PySem.W.Frag) (H₀ : Hp) (E : XK) (te : TE) (dl : DL) : Prop := ∀ ex δ σ G H Qd Q, ExOk H₀ E ex → Sees K H₀ G δ σ H → dl ex δ Qd → (∀ a vs ds G' H', Ext G H G' H' → H' a = some (.lst vs) → DVs K G' vs ds → Qd ds → Q (.ref a) H') → te σ H Q
theorem mv_ov (h : OvD K H₀ E te dl) : MvD K H₀ E te dl := fun ex δ σ G H Qd Q hx S q k =>
  h ex δ σ G H _ Q hx S q fun a vs ds G' H' e hn hg hh hd qd => k a vs ds G' H' e hh hd qd
noncomputable def dMVar (i : Nat) (_ex : DX) (δ : DEn) (Q : List PyData → Prop) : Prop := match slot δ i with
  | some (.own ds) => Q ds
  | _ => False
theorem mv_var (i : Nat) : MvD K H₀ E (tVar i) (dMVar i) := fun ex δ σ G H Qd Q hx S q k => by
  unfold dMVar at q
  split at q
  · rename_i ds hs
    obtain ⟨a, vs, h1, h2, h3, h4⟩ := S.ownAt hs
    exact ⟨_, h1, k a vs ds G H S.refl h3 h4 q⟩
  · exact q.elim
noncomputable def dCat (dl dk : DL) (ex : DX) (δ : DEn) (Q : List PyData → Prop) : Prop := dl ex δ fun xs => dk ex δ fun ys => xs.length + ys.length ≤ 1000 ∧ Q (xs ++ ys)
theorem ov_cat (h1 : MvD K H₀ E ta dl) (h2 : MvD K H₀ E tb dk) : OvD K H₀ E (tOp rCat ta tb) (dCat dl dk) := fun ex δ σ G H Qd Q hx S q k =>
  h1 ex δ σ G H _ _ hx S q fun a vs ds G1 H1 e1 l1 d1 q1 => h2 ex δ σ G1 H1 _ _ hx (S.ext e1) q1 fun b ws es G2 H2 e2 l2 d2 ⟨q2, q3⟩ =>
    ⟨a, b, vs, ws, rfl, rfl, e2.h _ _ l1, l2, Nat.le_of_lt (small1000 (by rw [d1.len, d2.len]; exact q2)), fun p hp => by
      obtain ⟨e3, g3⟩ := ext_newL (xs := vs ++ ws) e2.s hp
      have e0 := e1.trans e2
      exact k p _ _ _ _ (e0.trans e3) (e0.h.free hp) g3 upd_same ((dvs_same e2.g d1).append d2) q3⟩
end
section
variable {dl : DL} {dg : DG} {db d1 d2 : DS} {e : DEnds} {δ : DEn}
theorem seq_mk (h : d1 { e with nx := d2 e } δ) : dSeq d1 d2 e δ := h
theorem cut_mk (I : DEn → Prop) (h : d1 { e with nx := I } δ) (k : ∀ δ', I δ' → d2 e δ') : dCut d1 d2 e δ := ⟨I, h, k⟩
theorem for_map {α : Type} (f : α → PyData) (xs : List α) (hl : ∀ Q, Q (xs.map f) → dl e.ex δ Q) (I : Nat → DEn → Prop) (h0 : I 0 δ)
    (hs : ∀ i x δ', xs[i]? = some x → I i δ' → dg (f x) δ' fun δ2 => db { e with nx := I (i + 1), ct := I (i + 1), bk := e.nx } δ2) (hd : ∀ δ', I xs.length δ' → e.nx δ') : dFor dl dg db e δ :=
  hl _ ⟨I, h0, fun i d δ' hi hI => by
    rw [List.getElem?_map] at hi
    cases q : xs[i]? with
    | none => rw [q] at hi; cases hi
    | some x =>
      rw [q] at hi
      cases hi
      exact hs i x δ' q hI, fun δ' hI => hd δ' (by rw [List.length_map] at hI; exact hI)⟩
theorem for_rng {lo st : Int} {n : Nat} (hl : ∀ Q, Q (rngD lo n st) → dl e.ex δ Q) (I : Nat → DEn → Prop) (h0 : I 0 δ)
    (hs : ∀ i δ', i < n → I i δ' → dg (.int (lo + (i : Int) * st)) δ' fun δ2 => db { e with nx := I (i + 1), ct := I (i + 1), bk := e.nx } δ2) (hd : ∀ δ', I n δ' → e.nx δ') : dFor dl dg db e δ :=
  hl _ ⟨I, h0, fun i d δ' hi hI => by
    obtain ⟨h1, rfl⟩ := rngD_at hi
    exact hs i δ' h1 hI, fun δ' hI => hd δ' (by rw [rngD_len] at hI; exact hI)⟩
variable {dt : DT} {de : DE} {cap : List (Option Nat)} {ex : DX} {Q : List PyData → Prop}
theorem lc_map {α β : Type} (f : α → PyData) (g : β → PyData) (F : α → List β) (xs : List α) (hlen : xs.length ≤ 1000) (hl : ∀ Q, Q (xs.map f) → dl ex δ Q)
    (hs : ∀ x ∈ xs, ∀ N : List PyData → Prop, ∀ acc, N (acc ++ (F x).map g) → dg (f x) (capD cap δ) fun δ2 => dt (fun _ => False) δ2 fun b => if b = true then de (fun _ => False) δ2 fun y => N (acc ++ [y]) else N acc)
    (hd : Q ((xs.flatMap F).map g)) : dLC dl cap dg dt de ex δ Q :=
  hl _ ⟨by rw [List.length_map]; exact hlen, fun i acc => acc = ((xs.take i).flatMap F).map g, by simp, fun i d acc hi hI => by
    rw [List.getElem?_map] at hi
    cases q : xs[i]? with
    | none => rw [q] at hi; cases hi
    | some x =>
      rw [q] at hi
      cases hi
      subst hI
      refine hs x (List.mem_of_getElem? q) (fun acc => acc = ((xs.take (i + 1)).flatMap F).map g) _ ?_
      have e : xs.take (i + 1) = xs.take i ++ [x] := by
        rw [List.take_add_one, q]; rfl
      rw [e]
      simp, fun acc hI => by
    subst hI
    rw [List.length_map, List.take_of_length_le (Nat.le_refl _)]
    exact hd⟩
end
noncomputable abbrev DXS := DEn → Addr → Prop
noncomputable abbrev DSX := DEnds → DXS → DEn → Prop
structure LkX (K : PySem.W.Frag) (H₀ G : Hp) (xd : DXS) (XE : XS) : Prop where
  ex : ∀ δ σ C G' H, Same G G' → Sees K H₀ G' δ σ H → xd δ C → XE σ (.ref C) none H
theorem LkX.mono {K : PySem.W.Frag} {H₀ G G1 : Hp} {xd : DXS} {XE : XS} (L : LkX K H₀ G xd XE) (s : Same G G1) : LkX K H₀ G1 xd XE := ⟨fun δ σ C G' H t => L.ex δ σ C G' H (s.trans t)⟩
noncomputable abbrev nox (e : DEnds) : DEnds := { e with ex := fun _ => False }
theorem Lk.nox {K : PySem.W.Frag} {H₀ G : Hp} {e : DEnds} {D : Ends} (L : Lk K H₀ G e D) : Lk K H₀ G (nox e) D := ⟨L.nx, L.rt, L.bk, L.ct⟩
section
variable {K : PySem.W.Frag} {H₀ : Hp} {E : XK} {t : TA} {dl : DL} {ts : TS} {ds : DS} {tb tc : TSX} {db dc : DSX} {tt : TT} {dt : DT}
end
section
variable {K : PySem.W.Frag} {H₀ : Hp} {E : XK} {t : TA} {dl : DL} {ts : TS} {ds : DS} {tb tc : TSX} {db dc : DSX}
end
noncomputable def wLaw : DW := fun ds Q _ => ∃ ns : List Int, ds = [.list (ns.map .int)] ∧ ns.length ≤ 63 ∧ (∀ v ∈ ns, Builtin.Int.intBits v ≤ 1048576) ∧ Q (.dat (.bool true))
theorem dvs_of_ints {K : PySem.W.Frag} {H : Hp} : ∀ ns : List Int, DVs K H (ns.map V.int) (ns.map PyData.int)
  | [] => .nil
  | n :: ns => .cons (.int n) (dvs_of_ints ns)
theorem law_of {P : Program} {w : World} {K : PySem.W.Frag} {mg : Str → Option Value} {base : Heap} {k : Nat} {f : Addr} {fd : FuncData} {ps : List Str} (F : FnOk P w K mg base (CXE P w) k f fd ps (spW K wLaw)) : FnOk P w K mg base (CXE P w) k f fd ps (spLaw K) :=
  F.imp fun vs H Q E ⟨a, ns, e, hS, hl, hb, _, q⟩ => by
    subst e
    refine ⟨[.list (ns.map .int)], fun s => s = .dat (.bool true), fun _ => False, .cons (.lst hS (dvs_of_ints ns)) .nil, ⟨ns, rfl, hl, hb, rfl⟩, fun v s H' _ r hs => ?_, fun _ _ _ z => z.elim⟩
    subst hs
    cases dv_bl r
    exact q H'
section
variable {X : Cx} {pins : List (Addr × Obj)} {σ : L2.St} {H : Hp} {s : Shared} {h' : Heap}
theorem inv_turnedAll {t' : Nat} {ws : List Addr} (I : Inv X pins σ H s) (k : ∀ b o, b ∉ ws → s.heap.get? b = some o → h'.get? b = some o) (f : ∀ b ∈ ws, FpOk X pins H b) : Inv X pins σ H { s with heap := h', toks := t' } := by
  have nit : ∀ b u, H b = some u → b ∉ ws := fun b u e z => by rw [(f b z).1] at e; cases e
  refine I.step (g' := s.gens) (d' := s.drawn) (ch := ws) (fun b hb => ⟨(f b hb).2.2.2.1, (f b hb).2.1, (f b hb).2.2.2.2.1, (f b hb).2.2.2.2.2⟩) (fun b o _ _ hc e _ => k b o hc e) (fun b o _ _ hc e _ => ⟨o.slots, k b o hc e⟩) (fun _ _ _ _ n => n)
    (fun b o hc e => ⟨o, k b o hc e⟩) (fun _ _ e => e) (fun _ _ _ e => e) (fun b ps e => ⟨#[], by rw [e]; simp⟩) (fun m hm => ?_) (fun b u e => ?_) I.bare
  · obtain ⟨o, es, ep, ho, r⟩ := hm
    exact ⟨o, es, ep, k _ o (fun z => (f _ z).2.1 rfl) ho, r⟩
  · refine (I.hok b u e).stay (fun c v hc q => k c v ?_ q) (fun _ q => q) fun _ _ q => q
    rcases hc with z | z
    · rw [z]; exact nit b u e
    · exact nit c _ z
theorem inv_tup {T : Addr} {xs : List V} {its : List Value} (I : Inv X pins σ H s) (f : FpOk X pins H T) (h0 : X.s₀.heap.objs.size ≤ T) (hT : s.heap.IsTuple T its.toArray) (r : Vals xs its) (hz : xs.length ≤ sizeLine) : Inv X pins σ (upd H T (.tup xs)) s := by
  obtain ⟨f0, f1, f2, f3, f4, f5⟩ := f
  have neH : ∀ b o, H b = some o → b ≠ T := fun b o e z => by rw [z, f0] at e; cases e
  refine ⟨I.ok, I.os, I.bare, ⟨I.base.keep, I.base.slot, fun b o e n hb => ?_, I.base.there, fun b xs e => ?_, fun b o u e => ?_, fun b ps e => ?_⟩, I.loc, I.cell, ?_, fun y c e => ?_, fun p hp => ?_, fun b o e => ?_, I.len⟩
  · rw [upd_ne (Nat.ne_of_lt (Nat.lt_of_lt_of_le (Heap.lt_size e) h0))]
    exact I.base.free b o e n hb
  · have q := I.base.tups b xs e
    rw [upd_ne (neH b _ q)]; exact q
  · have q := I.base.frzs b o u e
    rw [upd_ne (neH b _ q)]; exact q
  · obtain ⟨m, q⟩ := I.base.tbls b ps e
    exact ⟨m, by rw [upd_ne (neH b _ q)]; exact q⟩
  · rw [upd_ne (Ne.symm f1)]; exact I.free
  · rw [upd_ne (f4 y c e)]; exact I.freeC y c e
  · obtain ⟨e, n, r⟩ := I.pin p hp
    exact ⟨e, by rw [upd_ne (f5 p hp)]; exact n, r⟩
  · by_cases hb : b = T
    · subst hb
      rw [upd_same] at e; cases e
      exact ⟨hz, its, r, hT⟩
    · rw [upd_ne hb] at e
      exact (I.hok b o e).stay (fun c v _ q => q) (fun c q => by rw [upd_ne (neH c _ q)]; exact q) fun c xs q => by rw [upd_ne (neH c _ q)]; exact q
end
noncomputable def Itz (K : PySem.W.Frag) (a b : Addr) : It :=
  ⟨fun i H => ∃ xs ys, SqL K H a xs ∧ SqL K H b ys ∧ i < xs.length ∧ i < ys.length,
   fun i H x H' => ∃ T u v, x = .ref T ∧ H T = none ∧ H' = upd H T (.tup [u, v]) ∧ (∀ xs, SqL K H a xs → xs[i]? = some u) ∧ ∀ ys, SqL K H b ys → ys[i]? = some v,
   fun i H => ∃ xs ys, SqL K H a xs ∧ SqL K H b ys ∧ (xs.length ≤ i ∨ ys.length ≤ i)⟩
theorem turn_zip {P : Program} {w : World} {K : PySem.W.Frag} {elts : List Expr} {k : Nat} {pos : Pos} {z TI TO i1 i2 l1 l2 : Addr} (D : ZipApart z TI TO i1 i2 l1 l2) :
    Turn P w K (.Tuple elts k pos) (Itz K l1 l2) [z, TI, TO, i1, i2] z (fun i h => IsZip h z TI TO .none ∧ IsPair h TI (.ref i1) (.ref i2) ∧ (∃ a b, IsPair h TO a b) ∧ h.IsListIter i1 l1 i ∧ h.IsListIter i2 l2 i) where
  mem := by simp
  obj := fun i h st b hb => by
    obtain ⟨hz, hTI, ⟨x, y, hTO⟩, ⟨o1, e1, _, d1⟩, ⟨o2, e2, _, d2⟩⟩ := st
    simp only [List.mem_cons, List.not_mem_nil, or_false] at hb
    rcases hb with rfl | rfl | rfl | rfl | rfl
    · exact ⟨_, hz, fun v q => by cases q⟩
    · exact ⟨_, hTI, fun v q => by cases q⟩
    · exact ⟨_, hTO, fun v q => by cases q⟩
    · exact ⟨o1, e1, fun v q => by rw [d1] at q; cases q⟩
    · exact ⟨o2, e2, fun v q => by rw [d2] at q; cases q⟩
  keep := fun i h h' st kp => by
    obtain ⟨hz, hTI, ⟨x, y, hTO⟩, h1, h2⟩ := st
    exact ⟨kp z (by simp) _ hz, kp TI (by simp) _ hTI, ⟨x, y, kp TO (by simp) _ hTO⟩, h1.at fun o e => kp i1 (by simp) o e, h2.at fun o e => kp i2 (by simp) o e⟩
  item := by
    intro X hP hw hK hc i pins s σ H E I hf st hg
    subst hP hw hK
    obtain ⟨xs, ys, q1, q2, g1, g2⟩ := hg
    obtain ⟨its1, rv1, p1, z1⟩ := I.list q1
    obtain ⟨its2, rv2, p2, z2⟩ := I.list q2
    obtain ⟨hz, hTI, ⟨x0, y0, hTO⟩, h1, h2⟩ := st
    have W := WalksT.zip2 (prog := X.prog) (w := X.w) (A := X.A) (I.ok.hd hc) z TI TO i1 i2 l1 l2 D its1.toArray its2.toArray
    have L1 := rv1.length
    have L2 := rv2.length
    refine W.item i s _ _ (by simp only [List.size_toArray]; omega) ⟨hz, hTI, ⟨_, _, hTO⟩, h1, h2, p1.isList, p2.isList⟩ fun T vals h' tk hv hsz hT hmid kk => ?_
    obtain ⟨x, y, hx, hy, rfl⟩ := hv
    refine ⟨_, rfl, W.go elts k pos i T { s with heap := h', toks := tk } _ _ hmid fun h3 hst kk3 => ?_⟩
    obtain ⟨u, e1⟩ : ∃ u, xs[i]? = some u := ⟨xs[i], List.getElem?_eq_getElem g1⟩
    obtain ⟨v, e2⟩ : ∃ v, ys[i]? = some v := ⟨ys[i], List.getElem?_eq_getElem g2⟩
    obtain ⟨x', e3, r1⟩ := rv1.get e1
    obtain ⟨y', e4, r2⟩ := rv2.get e2
    have ex : x' = x := by
      have : its1[i]? = some x := by simpa using hx
      rw [e3] at this; exact Option.some.inj this
    have ey : y' = y := by
      have : its2[i]? = some y := by simpa using hy
      rw [e4] at this; exact Option.some.inj this
    subst ex; subst ey
    have fw : ∀ b ∈ [z, TO, i1, i2], FpOk X pins H b := fun b hb => hf b (by
      simp only [List.mem_cons, List.not_mem_nil, or_false] at hb ⊢
      rcases hb with rfl | rfl | rfl | rfl <;> simp)
    have I1 : Inv X pins σ H { s with heap := h', toks := tk } := inv_turnedAll I kk fw
    have I2 : Inv X pins σ H { s with heap := h3, toks := tk } := inv_turnedAll (s := { s with heap := h', toks := tk }) I1 kk3 fw
    have nT := W.apart i T h' hmid
    have hT3 : h3.IsTuple T #[x', y'] := by
      obtain ⟨o, ho, r⟩ := hT
      exact ⟨o, kk3 T o nT ho, r⟩
    have fT : FpOk X pins H T := I.fpOk hsz (I.hok.fresh hsz)
    have I3 := inv_tup (xs := [u, v]) (its := [x', y']) I2 fT (Nat.le_trans I.sz hsz) hT3 (.cons r1 (.cons r2 .nil)) (Nat.le_of_lt (small1000 (by show 2 ≤ 1000; decide)))
    refine ⟨.ref T, upd H T (.tup [u, v]), I3, rfl, ⟨T, u, v, rfl, fT.1, rfl, fun xs' h => by rw [I.list_inj h q1]; exact e1, fun ys' h => by rw [I.list_inj h q2]; exact e2⟩, ⟨hst.1, hst.2.1, hst.2.2.1, hst.2.2.2.1, hst.2.2.2.2.1⟩, fun b hb => ?_⟩
    rw [upd_ne]
    · exact (hf b hb).1
    · intro e
      subst e
      have : ∃ o, s.heap.get? b = some o := by
        simp only [List.mem_cons, List.not_mem_nil, or_false] at hb
        rcases hb with rfl | rfl | rfl | rfl | rfl
        · exact ⟨_, hz⟩
        · exact ⟨_, hTI⟩
        · exact ⟨_, hTO⟩
        · obtain ⟨o, e, _⟩ := h1; exact ⟨o, e⟩
        · obtain ⟨o, e, _⟩ := h2; exact ⟨o, e⟩
      obtain ⟨o, e⟩ := this
      exact absurd (Heap.lt_size e) (Nat.not_lt.mpr hsz)
  done := by
    intro X hP hw hK hc i pins s σ H E I hf st hg
    subst hP hw hK
    obtain ⟨xs, ys, q1, q2, g⟩ := hg
    obtain ⟨its1, rv1, p1, z1⟩ := I.list q1
    obtain ⟨its2, rv2, p2, z2⟩ := I.list q2
    obtain ⟨hz, hTI, ⟨x0, y0, hTO⟩, h1, h2⟩ := st
    have L1 := rv1.length
    have L2 := rv2.length
    refine wpAny_pyNext_zip_end (I.ok.hd hc) D hz hTI hTO h1 h2 p1.isList p2.isList ?_ fun h' hk => ⟨rfl, ?_⟩
    · rcases g with g | g
      · exact .inl (by simp; omega)
      · exact .inr (by simp; omega)
    · exact inv_turnedAll (t' := s.toks) (ws := [z, TO, i1, i2]) I (fun b o hb e => hk b o (fun x => hb (by simp [x])) (fun x => hb (by simp [x])) (fun x => hb (by simp [x])) (fun x => hb (by simp [x])) e) fun b hb => hf b (by
        simp only [List.mem_cons, List.not_mem_nil, or_false] at hb ⊢
        rcases hb with rfl | rfl | rfl | rfl <;> simp)
  self := fun _ _ _ _ _ st h => wpAny_pyIter_zip st.1 h
theorem boot_zip : bootBuiltins "zip" = some (.type "zip") := by decide +kernel
theorem boot_reversed : bootBuiltins "reversed" = some (.type "reversed") := by decide +kernel
section
variable {X : Cx} {K : PySem.W.Frag}
noncomputable def iZip (K : PySem.W.Frag) (t : TA) : TI := fun σ H R => t σ H fun vs H1 => ∃ a b, vs = [.ref a, .ref b] ∧ (∃ xs, SqL K H1 a xs) ∧ (∃ ys, SqL K H1 b ys) ∧ R (Itz K a b) H1
theorem pi_zip {elts : List Expr} {k : Nat} {tpos : Pos} {a b : Expr} {ta : TA} {p pos : Pos} (hK : X.K = K) (hg : Gl X "zip") (hm : X.mg "zip" = none) (ha : PA X [a, b] ta) (hs : starEach [a, b] X.env = [(false, eval a X.env), (false, eval b X.env)] := by rfl) (hs2 : starEach [b] X.env = [(false, eval b X.env)] := by rfl) :
    PI X (.Tuple elts k tpos) (.Call (.Name "zip" p) [a, b] [] pos) (iZip K ta) := by
  subst hK
  intro pins s σ H R I h
  refine Call_ (ld_blt I hg hm boot_zip (PyProof.Rows.callWith_type1 (thn (ha pos pins s σ H _ I h) fun us s1 ⟨vs, H1, I1, r1, q1⟩ => ?_) (by rw [hs, hs2]) (by rw [hs2]; rfl)))
  obtain ⟨a', b', e, ⟨xs, g1⟩, ⟨ys, g2⟩, q⟩ := q1
  subst e
  obtain ⟨u, v, rfl, ru, rv⟩ := vals2 r1
  cases ru; cases rv
  obtain ⟨its1, rv1, p1, z1⟩ := I1.list g1
  obtain ⟨its2, rv2, p2, z2⟩ := I1.list g2
  have a1 : a' < s1.heap.objs.size := by obtain ⟨_, e, _⟩ := p1.isList; exact Heap.lt_size e
  have a2 : b' < s1.heap.objs.size := by obtain ⟨_, e, _⟩ := p2.isList; exact Heap.lt_size e
  refine call_zip_2 p1.isList p2.isList fun h' hz hTI hTO hi1 hi2 _ hk => wpAny_pyIter_zip hz ?_
  refine ⟨s1.heap.objs.size + 4, [s1.heap.objs.size + 4, s1.heap.objs.size + 2, s1.heap.objs.size + 3, s1.heap.objs.size, s1.heap.objs.size + 1], _, _, H1, rfl, I1.kept (t' := s1.toks) hk, turn_zip (zipApart_new a1 a2), ⟨hz, hTI, ⟨_, _, hTO⟩, hi1, hi2⟩, fun b hb => ?_, q⟩
  have hb2 : s1.heap.objs.size ≤ b := by
    simp only [List.mem_cons, List.not_mem_nil, or_false] at hb
    rcases hb with rfl | rfl | rfl | rfl | rfl <;> omega
  exact I1.fpOk hb2 (I1.hok.fresh hb2)
end
noncomputable def Itv (K : PySem.W.Frag) (a : Addr) (n : Nat) : It :=
  ⟨fun i H => ∃ xs, SqL K H a xs ∧ xs.length = n ∧ i < n, fun i H x H' => H' = H ∧ ∀ xs, SqL K H a xs → xs[n - 1 - i]? = some x, fun i _ => n ≤ i⟩
theorem turn_rev {P : Program} {w : World} {K : PySem.W.Frag} {tg : Expr} {it l : Addr} {n : Nat} : Turn P w K tg (Itv K l n) [it] it (fun i h => i ≤ n ∧ h.IsRevIter it l ((n : Int) - 1 - (i : Int))) where
  mem := by simp
  obj := fun i h st b hb => by
    have e : b = it := by simpa using hb
    subst e
    obtain ⟨_, o, e, c, d⟩ := st
    exact ⟨o, e, fun v z => by rw [d] at z; cases z⟩
  keep := fun i h h' st k => ⟨st.1, st.2.at fun o e => k it (by simp) o e⟩
  item := by
    intro X hP hw hK hc i pins s σ H E I hf st hg
    subst hP hw hK
    obtain ⟨xs, hq, hn, hi⟩ := hg
    obtain ⟨its, rv, p, hz⟩ := I.list hq
    obtain ⟨x, hx⟩ : ∃ x, xs[n - 1 - i]? = some x := ⟨_, List.getElem?_eq_getElem (by omega)⟩
    obtain ⟨u, hu, ru⟩ := rv.get hx
    obtain ⟨f0, f1, f2, f3, f4, f5⟩ := hf it (by simp)
    have e1 : (n : Int) - 1 - (i : Int) = ((n - 1 - i : Nat) : Int) := by omega
    have st2 := st.2
    rw [e1] at st2
    refine wpAny_pyNext_rev_item st2 p.isList (x := u) (by simpa using hu) fun h' st' sb => ?_
    have I1 : Inv X pins σ H { s with heap := h' } := I.turned (t' := s.toks) (fun b o hb e => (sb.2 b hb).trans e) f0 f1 f3 f4 f5
    obtain ⟨o, e, c, d⟩ := id st'
    refine ⟨u, rfl, go_of (s := { s with heap := h' }) e c d (by decide) ⟨x, H, I1, ru, ⟨rfl, fun ys hy => by rw [I.list_inj hy hq]; exact hx⟩, ⟨by omega, ?_⟩, fun b hb => (hf b hb).1⟩⟩
    have e2 : (n : Int) - 1 - ((i + 1 : Nat) : Int) = ((n - 1 - i : Nat) : Int) - 1 := by omega
    rw [e2]
    exact st'
  done := by
    intro X hP hw hK hc i pins s σ H E I hf st hg
    subst hP hw hK
    have hg' : n ≤ i := hg
    obtain ⟨f0, f1, f2, f3, f4, f5⟩ := hf it (by simp)
    have e1 : (n : Int) - 1 - (i : Int) = -1 := by have := st.1; omega
    have st2 := st.2
    rw [e1] at st2
    exact wpAny_pyNext_rev_end (I.ok.hd hc) st2 fun h' eb => ⟨rfl, I.turned (t' := s.toks) (fun b o hb e => eb b o hb e) f0 f1 f3 f4 f5⟩
  self := fun _ _ _ _ _ st h => wpAny_pyIter_revIter st.2 h
section
variable {X : Cx} {K : PySem.W.Frag}
noncomputable def iRev (K : PySem.W.Frag) (t : TA) : TI := fun σ H R => t σ H fun vs H1 => ∃ a xs, vs = [.ref a] ∧ SqL K H1 a xs ∧ R (Itv K a xs.length) H1
theorem pi_reversed {tg : Expr} {a : Expr} {ta : TA} {p pos : Pos} (hK : X.K = K) (hg : Gl X "reversed") (hm : X.mg "reversed" = none) (ha : PA X [a] ta) (hs : starEach [a] X.env = [(false, eval a X.env)] := by rfl) :
    PI X tg (.Call (.Name "reversed" p) [a] [] pos) (iRev K ta) := by
  subst hK
  intro pins s σ H R I h
  refine Call_ (ld_blt I hg hm boot_reversed (PyProof.Rows.callWith_type1 (thn (ha pos pins s σ H _ I h) fun us s1 ⟨vs, H1, I1, r1, q1⟩ => ?_) (by rw [hs]; rfl) (by rfl)))
  obtain ⟨a', xs, e, g1, q⟩ := q1
  subst e
  obtain ⟨u, rfl, ru⟩ := vals1 r1
  cases ru
  obtain ⟨its1, rv1, p1, z1⟩ := I1.list g1
  have L1 := rv1.length
  refine call_reversed_list p1.isList ?_
  have hit : (s1.heap.push (revObj a' ((its1.toArray.size : Int) - 1))).IsRevIter s1.heap.objs.size a' ((xs.length : Int) - 1 - ((0 : Nat) : Int)) := by
    refine ⟨_, Heap.get?_push_size _ rfl, rfl, ?_⟩
    simp only [revObj, List.size_toArray]
    rw [L1]
    simp
  refine wpAny_pyIter_revIter hit ?_
  refine ⟨s1.heap.objs.size, [s1.heap.objs.size], _, _, H1, rfl, I1.kept (t' := s1.toks) fun b o e => Heap.get?_push_of_some _ e, turn_rev, ⟨Nat.zero_le _, hit⟩, fun b hb => ?_, q⟩
  have e : b = s1.heap.objs.size := by simpa using hb
  subst e
  exact I1.fpOk (Nat.le_refl _) (I1.hok.fresh (Nat.le_refl _))
end
section
variable {K : PySem.W.Frag} {H₀ : Hp} {E : XK} {te ta tb : TE} {da db de : DE} {dl dk : DL} {t : TA}
noncomputable def pairD : List PyData → List PyData → List PyData
  | x :: xs, y :: ys => .tuple [x, y] :: pairD xs ys
  | _, _ => []
theorem pairD_len : ∀ xs ys : List PyData, (pairD xs ys).length = min xs.length ys.length
  | [], _ => by simp [pairD]
  | _ :: _, [] => by simp [pairD]
  | x :: xs, y :: ys => by simp [pairD, pairD_len xs ys]
theorem pairD_at : ∀ {xs ys : List PyData} {i : Nat} {d : PyData}, (pairD xs ys)[i]? = some d → ∃ x y, xs[i]? = some x ∧ ys[i]? = some y ∧ d = .tuple [x, y]
  | [], _, _, _, h => by simp [pairD] at h
  | _ :: _, [], _, _, h => by simp [pairD] at h
  | x :: xs, y :: ys, 0, d, h => ⟨x, y, rfl, rfl, by simpa [pairD] using h.symm⟩
  | x :: xs, y :: ys, i + 1, d, h => by
    obtain ⟨u, v, h1, h2, h3⟩ := pairD_at (xs := xs) (ys := ys) (i := i) (d := d) (by simpa [pairD] using h)
    exact ⟨u, v, by simpa using h1, by simpa using h2, h3⟩
noncomputable def dZip (dl dk : DL) (ex : DX) (δ : DEn) (Q : List PyData → Prop) : Prop := dl ex δ fun xs => dk ex δ fun ys => Q (pairD xs ys)
theorem itz_ok {a b : Addr} {vs ws : List V} {xs ys : List PyData} {G H : Hp} (s : Sub G H) (h1 : SqL K H a vs) (h2 : SqL K H b ws) (d1 : DVs K G vs xs) (d2 : DVs K G ws ys) (i : Nat) :
    (∀ d, (pairD xs ys)[i]? = some d → (Itz K a b).go i H ∧ ∀ x H2, (Itz K a b).yld i H x H2 → ∃ G2, Ext G H G2 H2 ∧ DV K G2 x d) ∧ ((pairD xs ys).length ≤ i → (Itz K a b).stop i H) := by
  refine ⟨fun d hi => ?_, fun hi => ⟨vs, ws, h1, h2, ?_⟩⟩
  · obtain ⟨x, y, e1, e2, rfl⟩ := pairD_at hi
    obtain ⟨u, f1, f2⟩ := d1.at e1
    obtain ⟨v, g1, g2⟩ := d2.at e2
    refine ⟨⟨vs, ws, h1, h2, (List.getElem?_eq_some_iff.mp f1).1, (List.getElem?_eq_some_iff.mp g1).1⟩, fun z H2 ⟨T, u', v', e3, hT, e4, k1, k2⟩ => ?_⟩
    subst e3 e4
    have q1 := k1 vs h1
    have q2 := k2 ws h2
    rw [f1] at q1; rw [g1] at q2
    cases q1; cases q2
    have e := ext_new (xs := [u, v]) s hT
    exact ⟨_, e, .tup (SqT.of upd_same) (.cons (dv_same e.g f2) (.cons (dv_same e.g g2) .nil))⟩
  · rw [pairD_len] at hi
    have := d1.len
    have := d2.len
    omega
theorem is_zip (h1 : EvD K H₀ E ta da) (h2 : EvD K H₀ E tb db) : IvS K H₀ E (iZip K (tCons ta (tCons tb tNil))) (dZip (dAsL da) (dAsL db)) := fun ex δ σ G H Qd R hx S q k =>
  h1 ex δ σ G H _ _ hx S q fun v d G1 H1 e1 hd q1 => by
    cases d with
    | list xs =>
      refine h2 ex δ σ G1 H1 _ _ hx (S.ext e1) q1 fun v2 d2 G2 H2 e2 hd2 q2 => ?_
      cases d2 with
      | list ys =>
        obtain ⟨a, vs, rfl, a1, a2⟩ := dv_list hd
        obtain ⟨b, ws, rfl, b1, b2⟩ := dv_list hd2
        refine ⟨a, b, rfl, ⟨vs, e2.h.seq (e1.s.same.seq a1)⟩, ⟨ws, e2.s.same.seq b1⟩, k _ _ G2 H2 (e1.trans e2) (fun G' H' s1 s2 i => ?_) q2⟩
        exact itz_ok s2 (s2.same.seq (s1.seq (e2.g.seq a1))) (s2.same.seq (s1.seq b1)) (dvs_same s1 (dvs_same e2.g a2)) (dvs_same s1 b2) i
      | _ => exact q2.elim
    | _ => exact q1.elim
theorem ie_zip (h1 : LvD K H₀ E ta dl) (h2 : LvD K H₀ E tb dk) : IvE K H₀ E (iZip K (tCons ta (tCons tb tNil))) (dZip dl dk) := fun ex δ σ G H Qd R hx S q k =>
  h1 ex δ σ G H _ _ hx S q fun a vs xs G1 H1 e1 a1 a2 q1 => h2 ex δ σ G1 H1 _ _ hx (S.ext e1) q1 fun b ws ys G2 H2 e2 b1 b2 q2 =>
    ⟨a, b, rfl, ⟨vs, e2.h.seq a1⟩, ⟨ws, b1⟩, k _ _ G2 H2 (e1.trans e2) (fun G' H' e i => itz_ok e.s (e.h.seq (e2.h.seq a1)) (e.h.seq b1) (dvs_same e.g (dvs_same e2.g a2)) (dvs_same e.g b2) i) q2⟩
noncomputable def dRev (dl : DL) (ex : DX) (δ : DEn) (Q : List PyData → Prop) : Prop := dl ex δ fun xs => Q xs.reverse
theorem itv_ok {a : Addr} {vs : List V} {xs : List PyData} {G H : Hp} (s : Sub G H) (h1 : SqL K H a vs) (d1 : DVs K G vs xs) (i : Nat) :
    (∀ d, xs.reverse[i]? = some d → (Itv K a vs.length).go i H ∧ ∀ x H2, (Itv K a vs.length).yld i H x H2 → ∃ G2, Ext G H G2 H2 ∧ DV K G2 x d) ∧ (xs.reverse.length ≤ i → (Itv K a vs.length).stop i H) := by
  have hl := d1.len
  refine ⟨fun d hi => ?_, fun hi => ?_⟩
  · have hlt : i < xs.length := by
      have := (List.getElem?_eq_some_iff.mp hi).1
      simpa using this
    rw [List.getElem?_reverse hlt] at hi
    obtain ⟨u, f1, f2⟩ := d1.at hi
    refine ⟨⟨vs, h1, rfl, by omega⟩, fun z H2 ⟨e1, k1⟩ => ?_⟩
    subst e1
    have q1 := k1 vs h1
    rw [hl, f1] at q1
    cases q1
    exact ⟨G, .refl s, f2⟩
  · show vs.length ≤ i
    rw [List.length_reverse] at hi
    omega
theorem is_rev (h1 : EvD K H₀ E ta da) : IvS K H₀ E (iRev K (tCons ta tNil)) (dRev (dAsL da)) := fun ex δ σ G H Qd R hx S q k =>
  h1 ex δ σ G H _ _ hx S q fun v d G1 H1 e1 hd q1 => by
    cases d with
    | list xs =>
      obtain ⟨a, vs, rfl, a1, a2⟩ := dv_list hd
      exact ⟨a, vs, rfl, e1.s.same.seq a1, k _ _ G1 H1 e1 (fun G' H' s1 s2 i => itv_ok s2 (s2.same.seq (s1.seq a1)) (dvs_same s1 a2) i) q1⟩
    | _ => exact q1.elim
end
section
variable {prog : Program} {w : World} {A : Around} {E : Value → Shared → Prop} {s : Shared}
end
section
variable {prog : Program} {w : World} {A : Around} {s : Shared} {R : Result → Shared → Prop}
variable {I : Addr} {fp wr : List Addr} {G : Array GenState → Array GenState → Prop} {n : Nat} {P : Nat → Value → Prop} {St : Nat → Shared → Prop}
end
section
variable {prog : Program} {w : World} {A : Around} {E : Value → Shared → Prop} {s : Shared}
end
section
variable {X : Cx} {pins : List (Addr × Obj)} {σ : L2.St} {H : Hp} {s : Shared}
end
section
variable {X : Cx} {K : PySem.W.Frag}
end
section
variable {K : PySem.W.Frag} {H₀ : Hp} {E : XK} {te : TE} {dl : DL}
end
end Dl
namespace Dl
open PySem PySem.Spec PyProof.Rows L2 Lx PySem.W
noncomputable def AllT {α : Type} (N : Nat) (P : α → Prop) : KasT α → Prop
  | .ret a => P a
  | .ask i j k => i < N ∧ j < N ∧ ∀ b, AllT N P (k b)
theorem AllT.mono {α : Type} {N : Nat} {P Q : α → Prop} (hf : ∀ a, P a → Q a) : ∀ {t : KasT α}, AllT N P t → AllT N Q t
  | .ret a, h => hf a h
  | .ask i j k, h => ⟨h.1, h.2.1, fun b => AllT.mono hf (h.2.2 b)⟩
section
variable {prog : Program} {w : World} {A : Around} {E : Value → Shared → Prop} {s : Shared}
end
section
variable {X : Cx} {K : PySem.W.Frag}
end
section
variable {K : PySem.W.Frag} {H₀ : Hp} {E : XK} {te ta : TE} {de da : DE} {dl : DL}
end
section
variable {X : Cx}
end
section
variable {K : PySem.W.Frag} {H₀ : Hp} {E : XK} {te ta : TE} {de da : DE} {dl : DL}
end
section
variable {X : Cx} {K : PySem.W.Frag}
noncomputable def rIsB (neg : Bool) : R2 := fun x y H Q => ∃ c d, x = .bl c ∧ y = .bl d ∧ Q (.bl (if neg then !(c == d) else c == d)) H
theorem op_notB : OpR X (compareOp .IsNot) (rIsB true) := by
  intro pins s σ H x y v u Q I rx ry h
  obtain ⟨c, d, rfl, rfl, q⟩ := h
  cases (show v = Value.bool c from rx)
  cases (show u = Value.bool d from ry)
  refine wpAny_isNot_plain rfl ?_
  refine ⟨.bl (!(c == d)), H, I, ?_, q⟩
  show Value.bool _ = Value.bool _
  cases c <;> cases d <;> rfl
noncomputable def oNotB (x y : PyData) (Q : PyData → Prop) : Prop := match x, y with
  | .bool c, .bool d => Q (.bool (!(c == d)))
  | _, _ => False
theorem ro_notB : ROp K (rIsB true) oNotB := by
  intro G H x y dx dy Qd Q hx hy q k
  unfold oNotB at q
  split at q
  · cases dv_bl hx; cases dv_bl hy
    exact ⟨_, _, rfl, rfl, k _ _ (.bl _) q⟩
  · exact q.elim
end
section
variable {K : PySem.W.Frag} {H₀ : Hp} {E : XK} {ta tb : TE} {db : DE} {dl : DL}
noncomputable def dRep (dl : DL) (db : DE) (ex : DX) (δ : DEn) (Q : List PyData → Prop) : Prop := dl ex δ fun xs => db ex δ fun y => match y with
  | .int k => (-(2 ^ 63) ≤ k ∧ k < 2 ^ 63) ∧ xs.length * k.toNat ≤ 1000 ∧ Q (List.replicate k.toNat xs).flatten
  | _ => False
theorem dvs_rep {G : Hp} {vs : List V} {ds : List PyData} (h : DVs K G vs ds) : ∀ n : Nat, DVs K G (List.replicate n vs).flatten (List.replicate n ds).flatten
  | 0 => .nil
  | n + 1 => by
    rw [List.replicate_succ, List.replicate_succ, List.flatten_cons, List.flatten_cons]
    exact h.append (dvs_rep h n)
theorem ov_rep (h1 : MvD K H₀ E ta dl) (h2 : BvD K H₀ E tb db) : OvD K H₀ E (tOp rRep ta tb) (dRep dl db) := fun ex δ σ G H Qd Q hx S q k =>
  h1 ex δ σ G H _ _ hx S q fun a vs ds G1 H1 e1 l1 d1 q1 => h2 ex δ σ G1 H1 _ _ hx (S.ext e1) q1 fun y dy G2 H2 e2 hy q2 => by
    cases dy with
    | int j =>
      cases dv_int hy
      obtain ⟨⟨b1, b2⟩, q2, q3⟩ := q2
      refine ⟨a, j, vs, rfl, rfl, e2.h _ _ l1, b1, b2, Nat.le_of_lt (small1000 (by rw [d1.len]; exact q2)), fun p hp => ?_⟩
      obtain ⟨e3, g3⟩ := ext_newL (xs := (List.replicate j.toNat vs).flatten) e2.s hp
      have e0 := e1.trans e2
      exact k p _ _ _ _ (e0.trans e3) (e0.h.free hp) g3 upd_same (dvs_rep (dvs_same e2.g d1) _) q3
    | _ => exact q2.elim
end
theorem ktup {K : PySem.W.Frag} {a : Addr} {od : Option Addr} {n : Nat} {sl : Array (Option Value)} {its : Array Value} {xs : List V} {ds : List PyData} (h : K.lookup a = some ⟨.type "tuple", od, .seq its n, sl⟩) (hz : its.size ≤ sizeLine) (r : Vals xs its.toList) (d : ∀ H, DVs K H xs ds) (H : Hp) : DV K H (.ref a) (.tuple ds) :=
  .tup (.inr ⟨_, its, n, h, rfl, rfl, hz, r⟩) (d H)
noncomputable def eStr : Enc { x : Str // PyData.strOk x = true } := ⟨fun x => .str x.1, 0, by decide, fun x => x.2, fun _ => by simp [PyData.depth], fun x y => by simp [PyData.eqv, Subtype.ext_iff]⟩
noncomputable def rInT (K : PySem.W.Frag) (neg : Bool) : R2 := fun x y H Q => ∃ (α : Type) (e : Enc α) (a : α) (bs : List α), DV K H x (e.d a) ∧ DV K H y (.tuple (bs.map e.d)) ∧ ∀ k : Bool, (k = true ↔ a ∈ bs) → Q (.bl (if neg then !k else k)) H
section
variable {X : Cx} {K : PySem.W.Frag}
theorem notInTK (hK : X.K = K) (hu : X.A.units + 64 < cLine) : OpR X (compareOp .NotIn) (rInT K true) := by
  subst hK
  intro pins s σ H x y v u Q I rx ry h
  obtain ⟨α, e, a, bs, da, db, q⟩ := h
  obtain ⟨as, r1⟩ := dv_reads I da rx
  obtain ⟨cs, r2⟩ := dv_reads I db ry
  have h1 := e.depth a
  have h2 := e.small
  exact PySem.SeqAt.notIn_tuple_reads r2 r1 (enc_all e bs).1 (e.lay a) (by omega) ⟨.bl _, H, I, rfl, q _ (any_enc e a bs)⟩
end
noncomputable def oNInT (x y : PyData) (Q : PyData → Prop) : Prop := ∃ (α : Type) (e : Enc α) (a : α) (bs : List α), x = e.d a ∧ y = .tuple (bs.map e.d) ∧ ∀ k : Bool, (k = true ↔ a ∈ bs) → Q (.bool !k)
section
variable {K : PySem.W.Frag}
theorem ro_notInT : ROp K (rInT K true) oNInT := by
  rintro G H x y dx dy Qd Q hx hy ⟨α, e, a, bs, rfl, rfl, q⟩ k
  exact ⟨α, e, a, bs, hx, hy, fun c hc => k _ _ (.bl _) (q c hc)⟩
end
noncomputable def rBools (K : PySem.W.Frag) (f : List Bool → Bool) : List V → Hp → VK → Prop := fun xs H Q => ∃ (p : Addr) (bs : List Bool), xs = [.ref p] ∧ SqL K H p (bs.map V.bl) ∧ Q (.bl (f bs)) H
theorem bools_vals : ∀ {bs : List Bool} {us : List Value}, Vals (bs.map V.bl) us → LSm.BoolsAre us bs
  | [], _, .nil => .nil
  | b :: bs, _, .cons r t => by
    cases (show _ = Value.bool b from r)
    exact .cons b (bools_vals t)
section
variable {X : Cx} {K : PySem.W.Frag}
theorem allK (hK : X.K = K) (hc : X.calm = true) : CallR X (.builtin "all") (rBools K (·.all id)) := by
  subst hK
  intro pins s σ H xs us Q I r h
  obtain ⟨p, bs, rfl, hq, q⟩ := h
  obtain ⟨u, rfl, rx⟩ := vals1 r
  cases rx
  obtain ⟨its, r', pl, hz⟩ := I.list hq
  have hb := bools_vals r'
  have hl : s.heap.IsList p its.toArray := pl.isList
  have hlt : p < s.heap.objs.size := by obtain ⟨_, e, _⟩ := hl; exact Heap.lt_size e
  refine call_all_walk (wpAny_pyIter_list hl ?_)
  refine ⟨s.heap.objs.size, [s.heap.objs.size, p], [s.heap.objs.size], its.toArray.size, _, _, fun i => (bs[i]?).getD true, rfl, Walks.list (A := X.A.in1) (I.ok.hd hc) _ p (Nat.ne_of_lt hlt) its.toArray,
    ⟨⟨_, Heap.get?_push_size _ rfl, rfl, rfl⟩, hl.push _⟩, fun i v s' Q' E' hP hQ => ?_, fun h' tk hk => ?_⟩
  · obtain ⟨b, e, rfl⟩ := hb.get i v (by simpa using hP)
    simp only [e, Option.getD_some] at hQ
    exact wpAny_truthy_bool hQ
  · have e : ((List.range its.toArray.size).all fun i => (bs[i]?).getD true) = bs.all id := by
      rw [List.size_toArray, hb.length]; exact LSm.range_all bs
    rw [e]
    exact ⟨.bl _, H, I.kept (t' := tk) (LSm.kept_iter hk), rfl, q⟩
end
noncomputable def bAll (ds : List PyData) (Q : PyData → Prop) : Prop := match ds with
  | [.list bs] => ∃ ks : List Bool, bs = ks.map PyData.bool ∧ Q (.bool (ks.all id))
  | _ => False
section
variable {K : PySem.W.Frag}
theorem dvs_bools {H : Hp} : ∀ {ks : List Bool} {xs : List V}, DVs K H xs (ks.map PyData.bool) → xs = ks.map V.bl
  | [], _, .nil => rfl
  | k :: ks, _, .cons h t => by rw [dv_bl h, dvs_bools t]; rfl
theorem rb_all : RCb K (rBools K (·.all id)) bAll := by
  intro G H xs ds Qd Q hx q k
  unfold bAll at q
  split at q
  · obtain ⟨ks, rfl, q⟩ := q
    obtain ⟨x, rfl, hd⟩ := dvs1 hx
    obtain ⟨a, vs, rfl, h1, h2⟩ := dv_list hd
    rw [dvs_bools h2] at h1
    exact ⟨a, ks, rfl, h1, k _ _ (.bl _) q⟩
  · exact q.elim
end
theorem boot_all : bootBuiltins "all" = some (.builtin "all") := by decide +kernel
section
variable {prog : Program} {w : World} {A : Around} {E : Value → Shared → Prop}
end
section
variable {X : Cx} {K : PySem.W.Frag}
end
section
variable {K : PySem.W.Frag} {H₀ : Hp}
end
noncomputable def tNoS : TS := fun _ _ _ => False
theorem ps_no {X : Cx} {st : Stmt} : PS X st tNoS := fun _ _ _ _ _ _ h => h.elim
noncomputable def dNoS : DS := fun _ _ => False
theorem sv_no {K : PySem.W.Frag} {H₀ : Hp} {E : XK} : SvD K H₀ E tNoS dNoS := fun _ _ _ _ _ _ _ _ q _ => q.elim
local macro_rules | `(tactic| walk_at "o") => `(tactic| first | omega | (refine (fun (h : @Eq Nat _ _) => ?_); omega))
noncomputable abbrev IsTri (h : Heap) (T : Addr) (a b c : Value) : Prop := h.get? T = some { cls := .type "tuple", data := .seq #[a, b, c] }
theorem typeCall_zip3 (a b c : Value) : checkTypeCall "zip" ⟨[a, b, c], []⟩ = pure () := by kernel_rfl
theorem newCall_zip3 (a b c : Value) : checkBuiltinCall "zip.__new__" ⟨[.type "zip", a, b, c], []⟩ = pure () := by kernel_rfl
theorem args_init4 (a b c d : Value) : argsOk "object.__init__" ⟨[a, b, c, d], []⟩ := by
  unfold argsOk; rw [signature?_of (id := "object.__init__") (n := ['_', '_', 't', 'i', 'n', 'i', '_', '_']) (o := ['t', 'c', 'e', 'j', 'b', 'o']) (by kernel_rfl) F.owner_object]; kernel_rfl
section
variable {prog : Program} {w : World} {A : Around} {E : Value → Shared → Prop} {s : Shared}
theorem upd_tri {T : Addr} {a b c x : Value} {k : Nat} {Q : Unit → Shared → Prop} (hT : IsTri s.heap T a b c)
    (h : ∀ h', h'.get? T = some { cls := .type "tuple", data := .seq ((#[a, b, c] : Array Value).setIfInBounds k x) } → Heap.SameBut T s.heap h' → Q () { s with heap := h' }) :
    wpAny (model prog w) A (updateSeq T (·.setIfInBounds k x)) Q E s := by
  refine wpAny_updateSeq hT rfl (h _ ?_ (Heap.SameBut.update ..))
  rw [Heap.get?_update_self _ hT rfl]
  simp [Obj.mapSeq]
theorem zip3_item {n l1 l2 l3 : Nat} {k : Nat} {xs ys zs : Array Value} {x y v a b c : Value} {Q : Value → Shared → Prop} (L1 : l1 < n) (L2 : l2 < n) (L3 : l3 < n)
    (hz : IsZip s.heap (n + 5) (n + 3) (n + 4) .none) (hTI : IsTri s.heap (n + 3) (.ref n) (.ref (n + 1)) (.ref (n + 2))) (hTO : IsTri s.heap (n + 4) a b c)
    (h1 : s.heap.IsListIter n l1 k) (h2 : s.heap.IsListIter (n + 1) l2 k) (h3 : s.heap.IsListIter (n + 2) l3 k) (g1 : s.heap.IsList l1 xs) (g2 : s.heap.IsList l2 ys) (g3 : s.heap.IsList l3 zs)
    (hx : xs[k]? = some x) (hy : ys[k]? = some y) (hv : zs[k]? = some v)
    (hQ : ∀ h', IsZip h' (n + 5) (n + 3) (n + 4) (rawInt s.heap.objs.size) → IsTri h' (n + 4) x y v → h'.IsListIter n l1 (k + 1) → h'.IsListIter (n + 1) l2 (k + 1) → h'.IsListIter (n + 2) l3 (k + 1) → IsTri h' s.heap.objs.size x y v →
      (∀ (d : Nat) o, d ∉ ([n, n + 1, n + 2, n + 4, n + 5] : List Nat) → s.heap.get? d = some o → h'.get? d = some o) → Q (.ref s.heap.objs.size) { s with heap := h' }) :
    wpAny (model prog w) A (Builtin.«zip.__next__» ⟨[.ref (n + 5)], []⟩) (fun fin s' => ∃ v, fin = .done (.ret v) ∧ Q v s') E s := by
  show wpAny _ _ (field (.ref (n + 5)) 2 >>= _) _ _ _
  refine wpAny_bind (wpAny_field hz rfl (x := .bool false) rfl ?_)
  show wpAny _ _ (field (.ref (n + 5)) 3 >>= _) _ _ _
  refine wpAny_bind (wpAny_field hz rfl (x := .ref (n + 3)) rfl ?_)
  refine wpAny_bind (wpAny_seqItems hTI rfl ?_)
  show wpAny _ _ (Builtin.SmallTypes.ownedTupleIsFree (.ref (n + 5)) >>= _) _ _ _
  refine wpAny_bind ?_
  unfold Builtin.SmallTypes.ownedTupleIsFree
  refine wpAny_bind (wpAny_field hz rfl (x := .none) rfl (wpAny_pure ?_))
  simp only [if_true]
  refine wpAny_bind (wpAny_rule ?_)
  refine wpAny_bind (wpAny_field hz rfl (x := .ref (n + 4)) rfl ?_)
  refine wpAny_bind (wpAny_setField_rec hz (by simp) fun h₁ hz₁ hs₁ => ?_)
  replace hz₁ : IsZip h₁ (n + 5) (n + 3) (n + 4) .ellipsis := hz₁
  have q1 : ∀ (d : Nat) o, d ≠ n + 5 → s.heap.get? d = some o → h₁.get? d = some o := fun d o hd e => hs₁.extBut d o hd e
  refine wpAny_bind ?_
  simp only [List.zipIdx_cons, List.zipIdx_nil, List.forIn_cons, List.forIn_nil]
  refine wpAny_bind (wpAny_bind (wpAny_onRaise ?_))
  show wpAny _ _ (Builtin.SmallTypes.nextOf (.ref n) >>= _) _ _ _
  refine wpAny_bind (wpAny_nextOf_list_item (h1.at fun o e => q1 n o (by walk_at "o") e) (g1.at fun o e => q1 l1 o (by walk_at "o") e) hx fun h₂ i1 hs₂ => wpAny_pure ?_)
  have q2 : ∀ (d : Nat) o, d ≠ n + 5 → d ≠ n → s.heap.get? d = some o → h₂.get? d = some o := fun d o a1 a2 e => hs₂.extBut d o a2 (q1 d o a1 e)
  have z2 : IsZip h₂ (n + 5) (n + 3) (n + 4) .ellipsis := hs₂.extBut _ _ (by walk_at "o") hz₁
  have t2 : IsTri h₂ (n + 4) a b c := q2 _ _ (by walk_at "o") (by walk_at "o") hTO
  refine wpAny_bind (wpAny_seqItems t2 rfl ?_)
  refine wpAny_bind (upd_tri t2 fun h₃ t3 hs₃ => ?_)
  replace t3 : IsTri h₃ (n + 4) x b c := t3
  have q3 : ∀ (d : Nat) o, d ≠ n + 5 → d ≠ n → d ≠ n + 4 → s.heap.get? d = some o → h₃.get? d = some o := fun d o a1 a2 a3 e => hs₃.extBut d o a3 (q2 d o a1 a2 e)
  have z3 : IsZip h₃ (n + 5) (n + 3) (n + 4) .ellipsis := hs₃.extBut _ _ (by walk_at "o") z2
  have j3 : h₃.IsListIter n l1 (k + 1) := i1.at fun o e => hs₃.extBut n o (by walk_at "o") e
  refine wpAny_bind (wpAny_letGo (wpAny_pure ?_))
  refine wpAny_bind (wpAny_bind (wpAny_onRaise ?_))
  show wpAny _ _ (Builtin.SmallTypes.nextOf (.ref (n + 1)) >>= _) _ _ _
  refine wpAny_bind (wpAny_nextOf_list_item (h2.at fun o e => q3 (n + 1) o (by walk_at "o") (by walk_at "o") (by walk_at "o") e) (g2.at fun o e => q3 l2 o (by walk_at "o") (by walk_at "o") (by walk_at "o") e) hy fun h₄ i2 hs₄ => wpAny_pure ?_)
  have q4 : ∀ (d : Nat) o, d ≠ n + 5 → d ≠ n → d ≠ n + 4 → d ≠ n + 1 → s.heap.get? d = some o → h₄.get? d = some o := fun d o a1 a2 a3 a4 e => hs₄.extBut d o a4 (q3 d o a1 a2 a3 e)
  have z4 : IsZip h₄ (n + 5) (n + 3) (n + 4) .ellipsis := hs₄.extBut _ _ (by walk_at "o") z3
  have j4 : h₄.IsListIter n l1 (k + 1) := j3.at fun o e => hs₄.extBut n o (by walk_at "o") e
  have t4 : IsTri h₄ (n + 4) x b c := hs₄.extBut _ _ (by walk_at "o") t3
  refine wpAny_bind (wpAny_seqItems t4 rfl ?_)
  refine wpAny_bind (upd_tri t4 fun h₅ t5 hs₅ => ?_)
  replace t5 : IsTri h₅ (n + 4) x y c := t5
  have q5 : ∀ (d : Nat) o, d ≠ n + 5 → d ≠ n → d ≠ n + 4 → d ≠ n + 1 → s.heap.get? d = some o → h₅.get? d = some o := fun d o a1 a2 a3 a4 e => hs₅.extBut d o a3 (q4 d o a1 a2 a3 a4 e)
  have z5 : IsZip h₅ (n + 5) (n + 3) (n + 4) .ellipsis := hs₅.extBut _ _ (by walk_at "o") z4
  have j5 : h₅.IsListIter n l1 (k + 1) := j4.at fun o e => hs₅.extBut n o (by walk_at "o") e
  have m5 : h₅.IsListIter (n + 1) l2 (k + 1) := i2.at fun o e => hs₅.extBut (n + 1) o (by walk_at "o") e
  refine wpAny_bind (wpAny_letGo (wpAny_pure ?_))
  refine wpAny_bind (wpAny_bind (wpAny_onRaise ?_))
  show wpAny _ _ (Builtin.SmallTypes.nextOf (.ref (n + 2)) >>= _) _ _ _
  refine wpAny_bind (wpAny_nextOf_list_item (h3.at fun o e => q5 (n + 2) o (by walk_at "o") (by walk_at "o") (by walk_at "o") (by walk_at "o") e) (g3.at fun o e => q5 l3 o (by walk_at "o") (by walk_at "o") (by walk_at "o") (by walk_at "o") e) hv fun h₆ i3 hs₆ => wpAny_pure ?_)
  have z6 : IsZip h₆ (n + 5) (n + 3) (n + 4) .ellipsis := hs₆.extBut _ _ (by walk_at "o") z5
  have j6 : h₆.IsListIter n l1 (k + 1) := j5.at fun o e => hs₆.extBut n o (by walk_at "o") e
  have m6 : h₆.IsListIter (n + 1) l2 (k + 1) := m5.at fun o e => hs₆.extBut (n + 1) o (by walk_at "o") e
  have t6 : IsTri h₆ (n + 4) x y c := hs₆.extBut _ _ (by walk_at "o") t5
  refine wpAny_bind (wpAny_seqItems t6 rfl ?_)
  refine wpAny_bind (upd_tri t6 fun h₇ t7 hs₇ => ?_)
  replace t7 : IsTri h₇ (n + 4) x y v := t7
  have z7 : IsZip h₇ (n + 5) (n + 3) (n + 4) .ellipsis := hs₇.extBut _ _ (by walk_at "o") z6
  have j7 : h₇.IsListIter n l1 (k + 1) := j6.at fun o e => hs₇.extBut n o (by walk_at "o") e
  have m7 : h₇.IsListIter (n + 1) l2 (k + 1) := m6.at fun o e => hs₇.extBut (n + 1) o (by walk_at "o") e
  have p7 : h₇.IsListIter (n + 2) l3 (k + 1) := i3.at fun o e => hs₇.extBut (n + 2) o (by walk_at "o") e
  have q7 : ∀ (d : Nat) o, d ∉ ([n, n + 1, n + 2, n + 4, n + 5] : List Nat) → s.heap.get? d = some o → h₇.get? d = some o := fun d o hd e => by
    simp only [List.mem_cons, List.not_mem_nil, or_false, not_or] at hd
    obtain ⟨a1, a2, a3, a4, a5⟩ := hd
    exact hs₇.extBut d o a4 (hs₆.extBut d o a3 (q5 d o a5 a1 a4 a2 e))
  refine wpAny_bind (wpAny_letGo (wpAny_pure (wpAny_pure ?_)))
  refine wpAny_bind (wpAny_seqItems t7 rfl ?_)
  refine wpAny_bind (wpAny_newTuple ?_)
  have hsz : h₇.objs.size = s.heap.objs.size := by rw [hs₇.1, hs₆.1, hs₅.1, hs₄.1, hs₃.1, hs₂.1, hs₁.1]
  have lz : n + 5 < h₇.objs.size := Heap.lt_size z7
  show wpAny _ _ (Builtin.SmallTypes.ownedTupleHandOut (.ref (n + 5)) (.ref h₇.objs.size) >>= _) _ _ _
  refine wpAny_bind ?_
  unfold Builtin.SmallTypes.ownedTupleHandOut
  have z8 : IsZip (h₇.push { cls := .type "tuple", data := .seq #[x, y, v] }) (n + 5) (n + 3) (n + 4) .ellipsis := Heap.get?_push_of_some _ z7
  refine wpAny_bind (wpAny_setField_rec z8 (by simp) fun h₉ z9 hs₉ => ?_)
  replace z9 : IsZip h₉ (n + 5) (n + 3) (n + 4) (rawInt h₇.objs.size) := z9
  refine wpAny_setField_rec z9 (by simp) fun hA zA hsA => ?_
  replace zA : IsZip hA (n + 5) (n + 3) (n + 4) (rawInt h₇.objs.size) := zA
  have up : ∀ (d : Nat) o, d ≠ n + 5 → h₇.get? d = some o → hA.get? d = some o := fun d o hd e => hsA.extBut d o hd (hs₉.extBut d o hd (Heap.get?_push_of_some _ e))
  have tA : IsTri hA h₇.objs.size x y v := hsA.extBut _ _ (by walk_at "o") (hs₉.extBut _ _ (by walk_at "o") (Heap.get?_push_size _ rfl))
  rw [hsz] at zA tA
  refine wpAny_pure ⟨_, rfl, ?_⟩
  show Q (.ref h₇.objs.size) _
  rw [hsz]
  exact hQ hA zA (up _ _ (by walk_at "o") t7) (j7.at fun o e => up n o (by walk_at "o") e) (m7.at fun o e => up (n + 1) o (by walk_at "o") e) (p7.at fun o e => up (n + 2) o (by walk_at "o") e) tA fun d o hd e => up d o (fun z => hd (by simp [z])) (q7 d o hd e)
theorem zip3_end {n l1 l2 l3 : Nat} {k : Nat} {xs ys zs : Array Value} {a b c : Value} {Q : Fin → Shared → Prop} (hh : A.handled = none) (L1 : l1 < n) (L2 : l2 < n) (L3 : l3 < n)
    (hz : IsZip s.heap (n + 5) (n + 3) (n + 4) .none) (hTI : IsTri s.heap (n + 3) (.ref n) (.ref (n + 1)) (.ref (n + 2))) (hTO : IsTri s.heap (n + 4) a b c)
    (h1 : s.heap.IsListIter n l1 k) (h2 : s.heap.IsListIter (n + 1) l2 k) (h3 : s.heap.IsListIter (n + 2) l3 k) (g1 : s.heap.IsList l1 xs) (g2 : s.heap.IsList l2 ys) (g3 : s.heap.IsList l3 zs)
    (hend : xs[k]? = none ∨ ys[k]? = none ∨ zs[k]? = none)
    (hE : ∀ h' e, (∀ (d : Nat) o, d ∉ ([n, n + 1, n + 2, n + 4, n + 5] : List Nat) → s.heap.get? d = some o → h'.get? d = some o) → (∃ o, h'.get? e = some o ∧ o.cls = .type "StopIteration") → E (.ref e) { s with heap := h' }) :
    wpAny (model prog w) A (Builtin.«zip.__next__» ⟨[.ref (n + 5)], []⟩) Q E s := by
  show wpAny _ _ (field (.ref (n + 5)) 2 >>= _) _ _ _
  refine wpAny_bind (wpAny_field hz rfl (x := .bool false) rfl ?_)
  show wpAny _ _ (field (.ref (n + 5)) 3 >>= _) _ _ _
  refine wpAny_bind (wpAny_field hz rfl (x := .ref (n + 3)) rfl ?_)
  refine wpAny_bind (wpAny_seqItems hTI rfl ?_)
  show wpAny _ _ (Builtin.SmallTypes.ownedTupleIsFree (.ref (n + 5)) >>= _) _ _ _
  refine wpAny_bind ?_
  unfold Builtin.SmallTypes.ownedTupleIsFree
  refine wpAny_bind (wpAny_field hz rfl (x := .none) rfl (wpAny_pure ?_))
  simp only [if_true]
  refine wpAny_bind (wpAny_rule ?_)
  refine wpAny_bind (wpAny_field hz rfl (x := .ref (n + 4)) rfl ?_)
  refine wpAny_bind (wpAny_setField_rec hz (by simp) fun h₁ hz₁ hs₁ => ?_)
  replace hz₁ : IsZip h₁ (n + 5) (n + 3) (n + 4) .ellipsis := hz₁
  have q1 : ∀ (d : Nat) o, d ≠ n + 5 → s.heap.get? d = some o → h₁.get? d = some o := fun d o hd e => hs₁.extBut d o hd e
  have stop : ∀ (h₂ : Heap) (e : Addr), IsZip h₂ (n + 5) (n + 3) (n + 4) .ellipsis → (∀ (d : Nat) o, d ∉ ([n, n + 1, n + 2, n + 4, n + 5] : List Nat) → s.heap.get? d = some o → h₂.get? d = some o) → (∃ o, h₂.get? e = some o ∧ o.cls = .type "StopIteration") →
      ∀ (R : Unit → Shared → Prop), (∀ h₃ : Heap, (∀ (d : Nat) o, d ∉ ([n, n + 1, n + 2, n + 4, n + 5] : List Nat) → s.heap.get? d = some o → h₃.get? d = some o) → (∃ o, h₃.get? e = some o ∧ o.cls = .type "StopIteration") → R () { s with heap := h₃ }) → ∀ E', wpAny (model prog w) A (setField (.ref (n + 5)) 0 .none) R E' { s with heap := h₂ } := fun h₂ e z2 k2 ⟨oe, ho, hc⟩ R hR E' => by
    have ne : e ≠ n + 5 := fun x => by
      subst x; rw [z2] at ho; cases ho; simp at hc
    refine wpAny_setField_rec z2 (by simp) fun h₃ _ hs₃ => hR h₃ (fun d o hd x => hs₃.extBut d o (fun y => hd (by simp [y])) (k2 d o hd x)) ⟨oe, hs₃.extBut _ _ ne ho, hc⟩
  refine wpAny_bind ?_
  simp only [List.zipIdx_cons, List.zipIdx_nil, List.forIn_cons, List.forIn_nil]
  refine wpAny_bind (wpAny_bind (wpAny_onRaise ?_))
  show wpAny _ _ (Builtin.SmallTypes.nextOf (.ref n) >>= _) _ _ _
  have b1 : h₁.IsListIter n l1 k := h1.at fun o e => q1 n o (by walk_at "o") e
  have b2 : h₁.IsList l1 xs := g1.at fun o e => q1 l1 o (by walk_at "o") e
  cases hx : xs[k]? with
  | none =>
    refine wpAny_bind (wpAny_nextOf_list_end hh b1 b2 hx fun h₂ e hs₂ he => ?_)
    refine stop h₂ e (hs₂ _ _ (by walk_at "o") hz₁) (fun d o hd x => ?_) he _ (fun h₃ k3 e3 => hE h₃ e k3 e3) _
    simp only [List.mem_cons, List.not_mem_nil, or_false, not_or] at hd
    exact hs₂ d o hd.1 (q1 d o hd.2.2.2.2 x)
  | some x =>
    refine wpAny_bind (wpAny_nextOf_list_item b1 b2 hx fun h₂ i1 hs₂ => wpAny_pure ?_)
    have q2 : ∀ (d : Nat) o, d ≠ n + 5 → d ≠ n → s.heap.get? d = some o → h₂.get? d = some o := fun d o a1 a2 e => hs₂.extBut d o a2 (q1 d o a1 e)
    have z2 : IsZip h₂ (n + 5) (n + 3) (n + 4) .ellipsis := hs₂.extBut _ _ (by walk_at "o") hz₁
    have t2 : IsTri h₂ (n + 4) a b c := q2 _ _ (by walk_at "o") (by walk_at "o") hTO
    refine wpAny_bind (wpAny_seqItems t2 rfl ?_)
    refine wpAny_bind (upd_tri t2 fun h₃ t3 hs₃ => ?_)
    replace t3 : IsTri h₃ (n + 4) x b c := t3
    have q3 : ∀ (d : Nat) o, d ≠ n + 5 → d ≠ n → d ≠ n + 4 → s.heap.get? d = some o → h₃.get? d = some o := fun d o a1 a2 a3 e => hs₃.extBut d o a3 (q2 d o a1 a2 e)
    have z3 : IsZip h₃ (n + 5) (n + 3) (n + 4) .ellipsis := hs₃.extBut _ _ (by walk_at "o") z2
    refine wpAny_bind (wpAny_letGo (wpAny_pure ?_))
    refine wpAny_bind (wpAny_bind (wpAny_onRaise ?_))
    show wpAny _ _ (Builtin.SmallTypes.nextOf (.ref (n + 1)) >>= _) _ _ _
    have c1 : h₃.IsListIter (n + 1) l2 k := h2.at fun o e => q3 (n + 1) o (by walk_at "o") (by walk_at "o") (by walk_at "o") e
    have c2 : h₃.IsList l2 ys := g2.at fun o e => q3 l2 o (by walk_at "o") (by walk_at "o") (by walk_at "o") e
    cases hy : ys[k]? with
    | none =>
      refine wpAny_bind (wpAny_nextOf_list_end hh c1 c2 hy fun h₄ e hs₄ he => ?_)
      refine stop h₄ e (hs₄ _ _ (by walk_at "o") z3) (fun d o hd x => ?_) he _ (fun h₅ k5 e5 => hE h₅ e k5 e5) _
      simp only [List.mem_cons, List.not_mem_nil, or_false, not_or] at hd
      exact hs₄ d o hd.2.1 (q3 d o hd.2.2.2.2 hd.1 hd.2.2.2.1 x)
    | some y =>
      have hv : zs[k]? = none := by
        rcases hend with h | h | h
        · rw [hx] at h; cases h
        · rw [hy] at h; cases h
        · exact h
      refine wpAny_bind (wpAny_nextOf_list_item c1 c2 hy fun h₄ i2 hs₄ => wpAny_pure ?_)
      have q4 : ∀ (d : Nat) o, d ≠ n + 5 → d ≠ n → d ≠ n + 4 → d ≠ n + 1 → s.heap.get? d = some o → h₄.get? d = some o := fun d o a1 a2 a3 a4 e => hs₄.extBut d o a4 (q3 d o a1 a2 a3 e)
      have z4 : IsZip h₄ (n + 5) (n + 3) (n + 4) .ellipsis := hs₄.extBut _ _ (by walk_at "o") z3
      have t4 : IsTri h₄ (n + 4) x b c := hs₄.extBut _ _ (by walk_at "o") t3
      refine wpAny_bind (wpAny_seqItems t4 rfl ?_)
      refine wpAny_bind (upd_tri t4 fun h₅ t5 hs₅ => ?_)
      have q5 : ∀ (d : Nat) o, d ≠ n + 5 → d ≠ n → d ≠ n + 4 → d ≠ n + 1 → s.heap.get? d = some o → h₅.get? d = some o := fun d o a1 a2 a3 a4 e => hs₅.extBut d o a3 (q4 d o a1 a2 a3 a4 e)
      have z5 : IsZip h₅ (n + 5) (n + 3) (n + 4) .ellipsis := hs₅.extBut _ _ (by walk_at "o") z4
      refine wpAny_bind (wpAny_letGo (wpAny_pure ?_))
      refine wpAny_bind (wpAny_bind (wpAny_onRaise ?_))
      show wpAny _ _ (Builtin.SmallTypes.nextOf (.ref (n + 2)) >>= _) _ _ _
      refine wpAny_bind (wpAny_nextOf_list_end hh (h3.at fun o e => q5 (n + 2) o (by walk_at "o") (by walk_at "o") (by walk_at "o") (by walk_at "o") e) (g3.at fun o e => q5 l3 o (by walk_at "o") (by walk_at "o") (by walk_at "o") (by walk_at "o") e) hv fun h₆ e hs₆ he => ?_)
      refine stop h₆ e (hs₆ _ _ (by walk_at "o") z5) (fun d o hd x => ?_) he _ (fun h₇ k7 e7 => hE h₇ e k7 e7) _
      simp only [List.mem_cons, List.not_mem_nil, or_false, not_or] at hd
      exact hs₆ d o hd.2.2.1 (q5 d o hd.2.2.2.2 hd.1 hd.2.2.2.1 hd.2.1 x)
theorem next_zip3_item {n l1 l2 l3 : Nat} {k : Nat} {xs ys zs : Array Value} {x y v a b c : Value} {Q : Option Value → Shared → Prop} (L1 : l1 < n) (L2 : l2 < n) (L3 : l3 < n)
    (hz : IsZip s.heap (n + 5) (n + 3) (n + 4) .none) (hTI : IsTri s.heap (n + 3) (.ref n) (.ref (n + 1)) (.ref (n + 2))) (hTO : IsTri s.heap (n + 4) a b c)
    (h1 : s.heap.IsListIter n l1 k) (h2 : s.heap.IsListIter (n + 1) l2 k) (h3 : s.heap.IsListIter (n + 2) l3 k) (g1 : s.heap.IsList l1 xs) (g2 : s.heap.IsList l2 ys) (g3 : s.heap.IsList l3 zs)
    (hx : xs[k]? = some x) (hy : ys[k]? = some y) (hv : zs[k]? = some v)
    (hQ : ∀ h', IsZip h' (n + 5) (n + 3) (n + 4) (rawInt s.heap.objs.size) → IsTri h' (n + 4) x y v → h'.IsListIter n l1 (k + 1) → h'.IsListIter (n + 1) l2 (k + 1) → h'.IsListIter (n + 2) l3 (k + 1) → IsTri h' s.heap.objs.size x y v →
      (∀ (d : Nat) o, d ∉ ([n, n + 1, n + 2, n + 4, n + 5] : List Nat) → s.heap.get? d = some o → h'.get? d = some o) → Q (some (.ref s.heap.objs.size)) { s with heap := h' }) :
    wpAny (model prog w) A (pyNext (.ref (n + 5))) Q E s := by
  have hT : s.TypeIs (.ref (n + 5)) "zip" := ⟨_, hz, rfl⟩
  unfold pyNext
  exact wpAny_bind (wpAny_attempt (wpAny_callSpecial?_slot (name := Str.ofString "__next__") hT F.slot_zip_next
    (wpAny_call_entry F.slot_zip_next hT F.entry_zip_next
      (zip3_item L1 L2 L3 hz hTI hTO h1 h2 h3 g1 g2 g3 hx hy hv fun h' a1 a2 a3 a4 a5 a6 a7 => wpAny_pure (hQ h' a1 a2 a3 a4 a5 a6 a7)) (F.args_zip_next_1 _))))
theorem next_zip3_end {n l1 l2 l3 : Nat} {k : Nat} {xs ys zs : Array Value} {a b c : Value} {Q : Option Value → Shared → Prop} (hh : A.handled = none) (L1 : l1 < n) (L2 : l2 < n) (L3 : l3 < n)
    (hz : IsZip s.heap (n + 5) (n + 3) (n + 4) .none) (hTI : IsTri s.heap (n + 3) (.ref n) (.ref (n + 1)) (.ref (n + 2))) (hTO : IsTri s.heap (n + 4) a b c)
    (h1 : s.heap.IsListIter n l1 k) (h2 : s.heap.IsListIter (n + 1) l2 k) (h3 : s.heap.IsListIter (n + 2) l3 k) (g1 : s.heap.IsList l1 xs) (g2 : s.heap.IsList l2 ys) (g3 : s.heap.IsList l3 zs)
    (hend : xs[k]? = none ∨ ys[k]? = none ∨ zs[k]? = none)
    (hQ : ∀ h', (∀ (d : Nat) o, d ∉ ([n, n + 1, n + 2, n + 4, n + 5] : List Nat) → s.heap.get? d = some o → h'.get? d = some o) → Q none { s with heap := h' }) : wpAny (model prog w) A (pyNext (.ref (n + 5))) Q E s := by
  have hT : s.TypeIs (.ref (n + 5)) "zip" := ⟨_, hz, rfl⟩
  unfold pyNext
  refine wpAny_bind (wpAny_attempt (wpAny_callSpecial?_slot (name := Str.ofString "__next__") hT F.slot_zip_next
    (wpAny_call_entry F.slot_zip_next hT F.entry_zip_next (zip3_end hh L1 L2 L3 hz hTI hTO h1 h2 h3 g1 g2 g3 hend fun h' e hk he => ?_) (F.args_zip_next_1 _))))
  obtain ⟨o, ho, hc⟩ := he
  refine wpAny_bind (wpAny_isInstance (T := "StopIteration") (b := true) ⟨o, ho, hc⟩ isSubtype_stop ?_)
  exact wpAny_pure (hQ _ hk)
end
noncomputable abbrev z3a (h : Heap) (l1 : Addr) : Heap := h.push { cls := .type "list_iterator", data := .fields #[.ref l1, .int 0 0] }
noncomputable abbrev z3b (h : Heap) (l1 l2 : Addr) : Heap := (z3a h l1).push { cls := .type "list_iterator", data := .fields #[.ref l2, .int 0 0] }
noncomputable abbrev z3c (h : Heap) (l1 l2 l3 : Addr) : Heap := (z3b h l1 l2).push { cls := .type "list_iterator", data := .fields #[.ref l3, .int 0 0] }
noncomputable abbrev z3d (h : Heap) (l1 l2 l3 : Addr) : Heap := (z3c h l1 l2 l3).push { cls := .type "tuple", data := .seq #[.ref h.objs.size, .ref (z3a h l1).objs.size, .ref (z3b h l1 l2).objs.size] }
noncomputable abbrev z3e (h : Heap) (l1 l2 l3 : Addr) : Heap := (z3d h l1 l2 l3).push { cls := .type "tuple", data := .seq #[.none, .none, .none] }
noncomputable abbrev z3f (h : Heap) (l1 l2 l3 : Addr) : Heap := (z3e h l1 l2 l3).push { cls := .type "zip", data := .fields #[.none, .bool false, .bool false, .ref (z3c h l1 l2 l3).objs.size, .ref (z3d h l1 l2 l3).objs.size] }
theorem meets_zip3 (l1 l2 l3 : Addr) (xs ys zs : Array Value) :
    Meets (Builtin.«zip.__new__» ⟨[.type "zip", .ref l1, .ref l2, .ref l3], []⟩) (fun _ R s => s.heap.IsList l1 xs ∧ s.heap.IsList l2 ys ∧ s.heap.IsList l3 zs ∧
      R (.ok (.ret (.ref (z3e s.heap l1 l2 l3).objs.size))) { s with heap := z3f s.heap l1 l2 l3 }) :=
  .of_wp fun prog w A R s h => by
    obtain ⟨hp, g, d, tk, os⟩ := s; obtain ⟨hl1, hl2, hl3, h⟩ := h
    have hsub := sub_zip
    have hL1 : Heap.IsList (Shared.heap ⟨hp, g, d, tk, os⟩) l1 xs := hl1
    have hL2 : Heap.IsList (Shared.heap ⟨z3a hp l1, g, d, tk, os⟩) l2 ys := Heap.IsList.push hl2 _
    have hL3 : Heap.IsList (Shared.heap ⟨z3b hp l1 l2, g, d, tk, os⟩) l3 zs := Heap.IsList.push (Heap.IsList.push hl3 _) _
    wp_walk using wpAny_pyIter_list hL1, wpAny_pyIter_list hL2, wpAny_pyIter_list hL3
    exact ⟨_, rfl, h⟩
section
variable {prog : Program} {w : World} {A : Around} {E : Value → Shared → Prop} {s : Shared}
theorem call_zip3 {l1 l2 l3 : Addr} {xs ys zs : Array Value} {Q : Value → Shared → Prop} (hl1 : s.heap.IsList l1 xs) (hl2 : s.heap.IsList l2 ys) (hl3 : s.heap.IsList l3 zs)
    (h : ∀ (h' : Heap) (n : Nat), n = s.heap.objs.size → IsZip h' (n + 5) (n + 3) (n + 4) .none → IsTri h' (n + 3) (.ref n) (.ref (n + 1)) (.ref (n + 2)) → IsTri h' (n + 4) .none .none .none → h'.IsListIter n l1 0 → h'.IsListIter (n + 1) l2 0 → h'.IsListIter (n + 2) l3 0 →
      (∀ c o, s.heap.get? c = some o → h'.get? c = some o) → Q (.ref (n + 5)) { s with heap := h' }) :
    wpAny (model prog w) A (call (.type "zip") [.ref l1, .ref l2, .ref l3]) Q E s := by
  refine callType_new F.called_zip (by decide) (typeCall_zip3 _ _ _) (newCall_zip3 _ _ _) (fun obj => args_init4 obj _ _ _) F.entry_zip_new (meets_zip3 l1 l2 l3 xs ys zs) ⟨hl1, hl2, hl3, ?_⟩
  have e1 : (z3a s.heap l1).objs.size = s.heap.objs.size + 1 := Heap.size_push ..
  have e2 : (z3b s.heap l1 l2).objs.size = s.heap.objs.size + 2 := by rw [Heap.size_push, e1]
  have e3 : (z3c s.heap l1 l2 l3).objs.size = s.heap.objs.size + 3 := by rw [Heap.size_push, e2]
  have e4 : (z3d s.heap l1 l2 l3).objs.size = s.heap.objs.size + 4 := by rw [Heap.size_push, e3]
  have e5 : (z3e s.heap l1 l2 l3).objs.size = s.heap.objs.size + 5 := by rw [Heap.size_push, e4]
  have pu : ∀ (h : Heap) (o : Obj) {c : Addr} {x : Obj}, h.get? c = some x → (h.push o).get? c = some x := fun h o c x e => Heap.get?_push_of_some _ e
  have f6 : (z3f s.heap l1 l2 l3).get? (z3e s.heap l1 l2 l3).objs.size = some _ := Heap.get?_push_size _ rfl
  have f5 : (z3f s.heap l1 l2 l3).get? (z3d s.heap l1 l2 l3).objs.size = some _ := pu _ _ (Heap.get?_push_size _ rfl)
  have f4 : (z3f s.heap l1 l2 l3).get? (z3c s.heap l1 l2 l3).objs.size = some _ := pu _ _ (pu _ _ (Heap.get?_push_size _ rfl))
  have f3 : (z3f s.heap l1 l2 l3).get? (z3b s.heap l1 l2).objs.size = some _ := pu _ _ (pu _ _ (pu _ _ (Heap.get?_push_size _ rfl)))
  have f2 : (z3f s.heap l1 l2 l3).get? (z3a s.heap l1).objs.size = some _ := pu _ _ (pu _ _ (pu _ _ (pu _ _ (Heap.get?_push_size _ rfl))))
  have f1 : (z3f s.heap l1 l2 l3).get? s.heap.objs.size = some _ := pu _ _ (pu _ _ (pu _ _ (pu _ _ (pu _ _ (Heap.get?_push_size _ rfl)))))
  show _ ∧ _
  rw [e5, e3, e4] at f6
  rw [e3, e1, e2] at f4
  rw [e4] at f5
  rw [e2] at f3
  rw [e1] at f2
  rw [e5]
  exact ⟨⟨_, f6, rfl⟩, h _ _ rfl f6 f4 f5 ⟨_, f1, rfl, rfl⟩ ⟨_, f2, rfl, rfl⟩ ⟨_, f3, rfl, rfl⟩ fun c o x => pu _ _ (pu _ _ (pu _ _ (pu _ _ (pu _ _ (pu _ _ x)))))⟩
end
noncomputable def Itz3 (K : PySem.W.Frag) (a b c : Addr) : It :=
  ⟨fun i H => ∃ xs ys zs, SqL K H a xs ∧ SqL K H b ys ∧ SqL K H c zs ∧ i < xs.length ∧ i < ys.length ∧ i < zs.length,
   fun i H x H' => ∃ T u v t, x = .ref T ∧ H T = none ∧ H' = upd H T (.tup [u, v, t]) ∧ (∀ xs, SqL K H a xs → xs[i]? = some u) ∧ (∀ ys, SqL K H b ys → ys[i]? = some v) ∧ ∀ zs, SqL K H c zs → zs[i]? = some t,
   fun i H => ∃ xs ys zs, SqL K H a xs ∧ SqL K H b ys ∧ SqL K H c zs ∧ (xs.length ≤ i ∨ ys.length ≤ i ∨ zs.length ≤ i)⟩
theorem vals_at {xs : List V} {its : List Value} (rv : Vals xs its) {i : Nat} (h : i < xs.length) : ∃ u x, xs[i]? = some u ∧ its.toArray[i]? = some x ∧ RelV u x := by
  have e1 : xs[i]? = some xs[i] := List.getElem?_eq_getElem h
  obtain ⟨x, e3, r1⟩ := rv.get e1
  exact ⟨_, x, e1, by simpa using e3, r1⟩
theorem turn_zip3 {P : Program} {w : World} {K : PySem.W.Frag} {elts : List Expr} {k : Nat} {pos : Pos} {n l1 l2 l3 : Nat} (L1 : l1 < n) (L2 : l2 < n) (L3 : l3 < n) :
    Turn P w K (.Tuple elts k pos) (Itz3 K l1 l2 l3) [n + 5, n + 3, n + 4, n, n + 1, n + 2] (n + 5) (fun i h => IsZip h (n + 5) (n + 3) (n + 4) .none ∧ IsTri h (n + 3) (.ref n) (.ref (n + 1)) (.ref (n + 2)) ∧ (∃ a b c, IsTri h (n + 4) a b c) ∧ h.IsListIter n l1 i ∧ h.IsListIter (n + 1) l2 i ∧ h.IsListIter (n + 2) l3 i) where
  mem := by simp
  obj := fun i h st b hb => by
    obtain ⟨hz, hTI, ⟨x, y, t, hTO⟩, ⟨o1, e1, _, d1⟩, ⟨o2, e2, _, d2⟩, ⟨o3, e3, _, d3⟩⟩ := st
    simp only [List.mem_cons, List.not_mem_nil, or_false] at hb
    rcases hb with rfl | rfl | rfl | rfl | rfl | rfl
    · exact ⟨_, hz, fun v q => by cases q⟩
    · exact ⟨_, hTI, fun v q => by cases q⟩
    · exact ⟨_, hTO, fun v q => by cases q⟩
    · exact ⟨o1, e1, fun v q => by rw [d1] at q; cases q⟩
    · exact ⟨o2, e2, fun v q => by rw [d2] at q; cases q⟩
    · exact ⟨o3, e3, fun v q => by rw [d3] at q; cases q⟩
  keep := fun i h h' st kp => by
    obtain ⟨hz, hTI, ⟨x, y, t, hTO⟩, h1, h2, h3⟩ := st
    exact ⟨kp _ (by simp) _ hz, kp _ (by simp) _ hTI, ⟨x, y, t, kp _ (by simp) _ hTO⟩, h1.at fun o e => kp _ (by simp) o e, h2.at fun o e => kp _ (by simp) o e, h3.at fun o e => kp _ (by simp) o e⟩
  item := by
    intro X hP hw hK hc i pins s σ H E I hf st hg
    subst hP hw hK
    obtain ⟨xs, ys, zs, q1, q2, q3, g1, g2, g3⟩ := hg
    obtain ⟨its1, rv1, p1, z1⟩ := I.list q1
    obtain ⟨its2, rv2, p2, z2⟩ := I.list q2
    obtain ⟨its3, rv3, p3, z3⟩ := I.list q3
    obtain ⟨hz, hTI, ⟨x0, y0, t0, hTO⟩, h1, h2, h3⟩ := st
    obtain ⟨u, x, e1, f1, r1⟩ := vals_at rv1 g1
    obtain ⟨v, y, e2, f2, r2⟩ := vals_at rv2 g2
    obtain ⟨t, c, e3, f3, r3⟩ := vals_at rv3 g3
    refine next_zip3_item L1 L2 L3 hz hTI hTO h1 h2 h3 p1.isList p2.isList p3.isList f1 f2 f3 fun h' hz' hTO' i1 i2 i3 hT kk => ?_
    refine ⟨_, rfl, wpAny_letOwnedTupleGo_zip hz' fun h3' hz3 hs3 => ?_⟩
    have fw : ∀ b ∈ [n, n + 1, n + 2, n + 4, n + 5], FpOk X pins H b := fun b hb => hf b (by
      simp only [List.mem_cons, List.not_mem_nil, or_false] at hb ⊢
      rcases hb with rfl | rfl | rfl | rfl | rfl <;> simp)
    have I1 : Inv X pins σ H { s with heap := h' } := inv_turnedAll (t' := s.toks) I kk fw
    have I2 : Inv X pins σ H { s with heap := h3' } := inv_turnedAll (s := { s with heap := h' }) (t' := s.toks) (ws := [n + 5]) I1 (fun b o hb e => hs3.extBut b o (by simpa using hb) e) fun b hb => hf b (by
      have : b = n + 5 := by simpa using hb
      simp [this])
    have szl : n + 5 < s.heap.objs.size := Heap.lt_size hz
    have hT3 : h3'.IsTuple s.heap.objs.size #[x, y, c] := ⟨_, hs3.extBut _ _ (by walk_at "o") hT, rfl, _, rfl⟩
    have fT : FpOk X pins H s.heap.objs.size := I.fpOk (Nat.le_refl _) (I.hok.fresh (Nat.le_refl _))
    have I3 := inv_tup (xs := [u, v, t]) (its := [x, y, c]) I2 fT I.sz hT3 (.cons r1 (.cons r2 (.cons r3 .nil))) (Nat.le_of_lt (small1000 (by show 3 ≤ 1000; decide)))
    refine ⟨.ref s.heap.objs.size, upd H s.heap.objs.size (.tup [u, v, t]), I3, rfl, ⟨_, u, v, t, rfl, fT.1, rfl, fun xs' h => by rw [I.list_inj h q1]; exact e1, fun ys' h => by rw [I.list_inj h q2]; exact e2, fun zs' h => by rw [I.list_inj h q3]; exact e3⟩, ⟨hz3, ?_, ⟨x, y, c, hs3.extBut _ _ (by walk_at "o") hTO'⟩, i1.at fun o e => hs3.extBut _ o (by walk_at "o") e, i2.at fun o e => hs3.extBut _ o (by walk_at "o") e, i3.at fun o e => hs3.extBut _ o (by walk_at "o") e⟩, fun b hb => ?_⟩
    · refine hs3.extBut _ _ (by walk_at "o") (kk _ _ ?_ hTI)
      simp only [List.mem_cons, List.not_mem_nil, or_false]
      omega
    · rw [upd_ne]
      · exact (hf b hb).1
      · simp only [List.mem_cons, List.not_mem_nil, or_false] at hb
        rcases hb with rfl | rfl | rfl | rfl | rfl | rfl <;> walk_at "o"
  done := by
    intro X hP hw hK hc i pins s σ H E I hf st hg
    subst hP hw hK
    obtain ⟨xs, ys, zs, q1, q2, q3, g⟩ := hg
    obtain ⟨its1, rv1, p1, z1⟩ := I.list q1
    obtain ⟨its2, rv2, p2, z2⟩ := I.list q2
    obtain ⟨its3, rv3, p3, z3⟩ := I.list q3
    obtain ⟨hz, hTI, ⟨x0, y0, t0, hTO⟩, h1, h2, h3⟩ := st
    have M1 := rv1.length
    have M2 := rv2.length
    have M3 := rv3.length
    refine next_zip3_end (I.ok.hd hc) L1 L2 L3 hz hTI hTO h1 h2 h3 p1.isList p2.isList p3.isList ?_ fun h' hk => ⟨rfl, ?_⟩
    · rcases g with g | g | g
      · exact .inl (by simp; omega)
      · exact .inr (.inl (by simp; omega))
      · exact .inr (.inr (by simp; omega))
    · exact inv_turnedAll (t' := s.toks) I hk fun b hb => hf b (by
        simp only [List.mem_cons, List.not_mem_nil, or_false] at hb ⊢
        rcases hb with rfl | rfl | rfl | rfl | rfl <;> simp)
  self := fun _ _ _ _ _ st h => wpAny_pyIter_zip st.1 h
section
variable {X : Cx} {K : PySem.W.Frag}
noncomputable def iZip3 (K : PySem.W.Frag) (t : TA) : TI := fun σ H R => t σ H fun vs H1 => ∃ a b c, vs = [.ref a, .ref b, .ref c] ∧ (∃ xs, SqL K H1 a xs) ∧ (∃ ys, SqL K H1 b ys) ∧ (∃ zs, SqL K H1 c zs) ∧ R (Itz3 K a b c) H1
theorem vals3 {x y z : V} {us : List Value} (h : Vals [x, y, z] us) : ∃ a b c, us = [a, b, c] ∧ RelV x a ∧ RelV y b ∧ RelV z c := by
  cases h with
  | cons r t =>
    obtain ⟨b, c, rfl, h1, h2⟩ := vals2 t
    exact ⟨_, b, c, rfl, r, h1, h2⟩
theorem pi_zip3 {elts : List Expr} {k : Nat} {tpos : Pos} {a b c : Expr} {ta : TA} {p pos : Pos} (hK : X.K = K) (hg : Gl X "zip") (hm : X.mg "zip" = none) (ha : PA X [a, b, c] ta) (hs : starEach [a, b, c] X.env = [(false, eval a X.env), (false, eval b X.env), (false, eval c X.env)] := by rfl) (hs2 : starEach [b, c] X.env = [(false, eval b X.env), (false, eval c X.env)] := by rfl) :
    PI X (.Tuple elts k tpos) (.Call (.Name "zip" p) [a, b, c] [] pos) (iZip3 K ta) := by
  subst hK
  intro pins s σ H R I h
  refine Call_ (ld_blt I hg hm boot_zip (PyProof.Rows.callWith_type1 (thn (ha pos pins s σ H _ I h) fun us s1 ⟨vs, H1, I1, r1, q1⟩ => ?_) (by rw [hs, hs2]) (by rw [hs2]; rfl)))
  obtain ⟨a', b', c', e, ⟨xs, g1⟩, ⟨ys, g2⟩, ⟨zs, g3⟩, q⟩ := q1
  subst e
  obtain ⟨u, v, t, rfl, ru, rv, rt⟩ := vals3 r1
  cases ru; cases rv; cases rt
  obtain ⟨its1, rv1, p1, z1⟩ := I1.list g1
  obtain ⟨its2, rv2, p2, z2⟩ := I1.list g2
  obtain ⟨its3, rv3, p3, z3⟩ := I1.list g3
  have a1 : a' < s1.heap.objs.size := by obtain ⟨_, e, _⟩ := p1.isList; exact Heap.lt_size e
  have a2 : b' < s1.heap.objs.size := by obtain ⟨_, e, _⟩ := p2.isList; exact Heap.lt_size e
  have a3 : c' < s1.heap.objs.size := by obtain ⟨_, e, _⟩ := p3.isList; exact Heap.lt_size e
  refine call_zip3 p1.isList p2.isList p3.isList fun h' n hn hz hTI hTO hi1 hi2 hi3 hk => wpAny_pyIter_zip hz ?_
  rw [← hn] at a1 a2 a3
  refine ⟨n + 5, [n + 5, n + 3, n + 4, n, n + 1, n + 2], _, _, H1, rfl, I1.kept (t' := s1.toks) hk, turn_zip3 a1 a2 a3, ⟨hz, hTI, ⟨_, _, _, hTO⟩, hi1, hi2, hi3⟩, fun b hb => ?_, q⟩
  have hb2 : s1.heap.objs.size ≤ b := by
    rw [← hn]
    simp only [List.mem_cons, List.not_mem_nil, or_false] at hb
    rcases hb with rfl | rfl | rfl | rfl | rfl | rfl <;> first | exact Nat.le_add_right _ _ | exact Nat.le_refl _
  exact I1.fpOk hb2 (I1.hok.fresh hb2)
end
section
variable {K : PySem.W.Frag} {H₀ : Hp} {E : XK} {ta tb tc : TE} {da db dc : DE} {dl dk dm : DL}
noncomputable def triD : List PyData → List PyData → List PyData → List PyData
  | x :: xs, y :: ys, z :: zs => .tuple [x, y, z] :: triD xs ys zs
  | _, _, _ => []
theorem triD_spec : ∀ (xs ys zs : List PyData) (i : Nat), (∀ d, (triD xs ys zs)[i]? = some d → ∃ x y z, xs[i]? = some x ∧ ys[i]? = some y ∧ zs[i]? = some z ∧ d = .tuple [x, y, z]) ∧ ((triD xs ys zs).length ≤ i → xs.length ≤ i ∨ ys.length ≤ i ∨ zs.length ≤ i)
  | [], ys, zs, i => ⟨fun d h => by simp [triD] at h, fun _ => .inl (Nat.zero_le _)⟩
  | x :: xs, [], zs, i => ⟨fun d h => by simp [triD] at h, fun _ => .inr (.inl (Nat.zero_le _))⟩
  | x :: xs, y :: ys, [], i => ⟨fun d h => by simp [triD] at h, fun _ => .inr (.inr (Nat.zero_le _))⟩
  | x :: xs, y :: ys, z :: zs, 0 => ⟨fun d h => ⟨x, y, z, rfl, rfl, rfl, by simpa [triD] using h.symm⟩, fun h => by simp [triD] at h⟩
  | x :: xs, y :: ys, z :: zs, i + 1 => by
    obtain ⟨h1, h2⟩ := triD_spec xs ys zs i
    refine ⟨fun d h => ?_, fun h => ?_⟩
    · obtain ⟨a, b, c, e1, e2, e3, e4⟩ := h1 d (by simpa [triD] using h)
      exact ⟨a, b, c, by simpa using e1, by simpa using e2, by simpa using e3, e4⟩
    · have := h2 (by simpa [triD] using h)
      simp only [List.length_cons]
      omega
noncomputable def dZip3 (dl dk dm : DL) (ex : DX) (δ : DEn) (Q : List PyData → Prop) : Prop := dl ex δ fun xs => dk ex δ fun ys => dm ex δ fun zs => Q (triD xs ys zs)
theorem itz3_ok {a b c : Addr} {vs ws us : List V} {xs ys zs : List PyData} {G H : Hp} (s : Sub G H) (h1 : SqL K H a vs) (h2 : SqL K H b ws) (h3 : SqL K H c us) (d1 : DVs K G vs xs) (d2 : DVs K G ws ys) (d3 : DVs K G us zs) (i : Nat) :
    (∀ d, (triD xs ys zs)[i]? = some d → (Itz3 K a b c).go i H ∧ ∀ x H2, (Itz3 K a b c).yld i H x H2 → ∃ G2, Ext G H G2 H2 ∧ DV K G2 x d) ∧ ((triD xs ys zs).length ≤ i → (Itz3 K a b c).stop i H) := by
  obtain ⟨s1, s2⟩ := triD_spec xs ys zs i
  refine ⟨fun d hi => ?_, fun hi => ⟨vs, ws, us, h1, h2, h3, ?_⟩⟩
  · obtain ⟨x, y, z, e1, e2, e3, rfl⟩ := s1 d hi
    obtain ⟨u, f1, f2⟩ := d1.at e1
    obtain ⟨v, g1, g2⟩ := d2.at e2
    obtain ⟨t, k1, k2⟩ := d3.at e3
    refine ⟨⟨vs, ws, us, h1, h2, h3, (List.getElem?_eq_some_iff.mp f1).1, (List.getElem?_eq_some_iff.mp g1).1, (List.getElem?_eq_some_iff.mp k1).1⟩, fun z' H2 ⟨T, u', v', t', e4, hT, e5, m1, m2, m3⟩ => ?_⟩
    subst e4 e5
    have q1 := m1 vs h1
    have q2 := m2 ws h2
    have q3 := m3 us h3
    rw [f1] at q1; rw [g1] at q2; rw [k1] at q3
    cases q1; cases q2; cases q3
    have e := ext_new (xs := [u, v, t]) s hT
    exact ⟨_, e, .tup (SqT.of upd_same) (.cons (dv_same e.g f2) (.cons (dv_same e.g g2) (.cons (dv_same e.g k2) .nil)))⟩
  · have := s2 hi
    have := d1.len
    have := d2.len
    have := d3.len
    omega
theorem is_zip3 (h1 : EvD K H₀ E ta da) (h2 : EvD K H₀ E tb db) (h3 : EvD K H₀ E tc dc) : IvS K H₀ E (iZip3 K (tCons ta (tCons tb (tCons tc tNil)))) (dZip3 (dAsL da) (dAsL db) (dAsL dc)) := fun ex δ σ G H Qd R hx S q k =>
  h1 ex δ σ G H _ _ hx S q fun v d G1 H1 e1 hd q1 => by
    cases d with
    | list xs =>
      refine h2 ex δ σ G1 H1 _ _ hx (S.ext e1) q1 fun v2 d2 G2 H2 e2 hd2 q2 => ?_
      cases d2 with
      | list ys =>
        refine h3 ex δ σ G2 H2 _ _ hx ((S.ext e1).ext e2) q2 fun v3 d3 G3 H3 e3 hd3 q3 => ?_
        cases d3 with
        | list zs =>
          obtain ⟨a, vs, rfl, a1, a2⟩ := dv_list hd
          obtain ⟨b, ws, rfl, b1, b2⟩ := dv_list hd2
          obtain ⟨c, us, rfl, c1, c2⟩ := dv_list hd3
          refine ⟨a, b, c, rfl, ⟨vs, e3.h.seq (e2.h.seq (e1.s.same.seq a1))⟩, ⟨ws, e3.h.seq (e2.s.same.seq b1)⟩, ⟨us, e3.s.same.seq c1⟩, k _ _ G3 H3 ((e1.trans e2).trans e3) (fun G' H' s1 s2 i => ?_) q3⟩
          exact itz3_ok s2 (s2.same.seq (s1.seq (e3.g.seq (e2.g.seq a1)))) (s2.same.seq (s1.seq (e3.g.seq b1))) (s2.same.seq (s1.seq c1)) (dvs_same s1 (dvs_same e3.g (dvs_same e2.g a2))) (dvs_same s1 (dvs_same e3.g b2)) (dvs_same s1 c2) i
        | _ => exact q3.elim
      | _ => exact q2.elim
    | _ => exact q1.elim
end
section
variable {K : PySem.W.Frag} {H₀ : Hp} {E : XK} {te ta tb : TE} {da db de : DE} {ts : TS} {ds : DS}
noncomputable def dFrzE (i : Nat) (d : DS) (e : DEnds) (δ : DEn) : Prop := d { e with nx := fun δ' => e.nx (frzAt i δ') } δ
theorem sv_frzE (i : Nat) (h : SvD K H₀ E ts ds) : SvD K H₀ E ts (dFrzE i ds) := fun δ σ G H e D hx S q L =>
  h δ σ G H { e with nx := fun δ' => e.nx (frzAt i δ') } D hx S q ⟨fun δ' σ' G' H' t S' q' => by
    change e.nx (frzAt i δ') at q'
    unfold frzAt at q'
    split at q'
    · rename_i xs hs
      obtain ⟨G2, s2, S2⟩ := S'.frz hs
      exact L.nx _ σ' G2 H' (t.trans s2) S2 q'
    · exact L.nx _ σ' G' H' t S' q', L.rt, L.bk, L.ct⟩
end
section
variable {K : PySem.W.Frag} {H₀ : Hp} {E : XK} {dl : DL} {tt : TT} {dt : DT} {ts : TS} {ds : DS} {g : TG} {dg : DG} {ns : List Nat}
end
noncomputable abbrev D2 := DX → DEn → (List PyData → List PyData → Prop) → Prop
noncomputable def O2D (K : PySem.W.Frag) (H₀ : Hp) (E : XK) (t : TA) (d : D2) : Prop := ∀ ex δ σ G H Qd Q, ExOk H₀ E ex → Sees K H₀ G δ σ H → d ex δ Qd →
  (∀ a b vs ws xs ys G' H', Ext G H G' H' → a ≠ b → H₀ a = none → H₀ b = none → G' a = none → G' b = none → H' a = some (.lst vs) → H' b = some (.lst ws) → DVs K G' vs xs → DVs K G' ws ys → Qd xs ys → Q [.ref a, .ref b] H') → t σ H Q
noncomputable def dOV (i : Nat) (_ex : DX) (δ : DEn) (Q : List PyData → Prop) : Prop := match slot δ i with
  | some (.own ds) => Q ds
  | _ => False
noncomputable def d2 (dl dk : DL) (ex : DX) (δ : DEn) (Q : List PyData → List PyData → Prop) : Prop := dl ex δ fun xs => dk ex δ fun ys => Q xs ys
section
variable {K : PySem.W.Frag} {H₀ : Hp} {E : XK} {ta tb : TE} {dl dk : DL} {t : TA}
theorem ov_of {δ : DEn} {i : Nat} {ex : DX} {Q : List PyData → Prop} (q : dOV i ex δ Q) : ∃ ds, slot δ i = some (.own ds) ∧ Q ds := by
  unfold dOV at q
  split at q
  · rename_i ds hs
    exact ⟨ds, hs, q⟩
  · exact q.elim
theorem o2_nn (ha : OvD K H₀ E ta dl) (hb : OvD K H₀ E tb dk) : O2D K H₀ E (tCons ta (tCons tb tNil)) (d2 dl dk) := fun ex δ σ G H Qd Q hx S q k =>
  ha ex δ σ G H _ _ hx S q fun a vs xs G1 H1 e1 n1 g1 h1 v1 q1 => hb ex δ σ G1 H1 _ _ hx (S.ext e1) q1 fun b ws ys G2 H2 e2 n2 g2 h2 v2 q2 =>
    k a b vs ws xs ys G2 H2 (e1.trans e2) (fun z => by subst z; rw [h1] at n2; cases n2) (S.oldH.free n1) ((S.ext e1).oldH.free n2) (e2.keep g1 h1) g2 (e2.h _ _ h1) h2 (dvs_same e2.g v1) v2 q2
theorem o2_vn (i : Nat) (hb : OvD K H₀ E tb dk) : O2D K H₀ E (tCons (tVar i) (tCons tb tNil)) (d2 (dOV i) dk) := fun ex δ σ G H Qd Q hx S q k => by
  obtain ⟨xs, hs, q⟩ := ov_of q
  obtain ⟨a, vs, s1, g1, h1, v1⟩ := S.ownAt hs
  refine ⟨_, s1, hb ex δ σ G H _ _ hx S q fun b ws ys G2 H2 e2 n2 g2 h2 v2 q2 => ?_⟩
  exact k a b vs ws xs ys G2 H2 e2 (fun z => by subst z; rw [h1] at n2; cases n2) (S.old.free g1) (S.oldH.free n2) (e2.keep g1 h1) g2 (e2.h _ _ h1) h2 (dvs_same e2.g v1) v2 q2
noncomputable def dRet2 (d : D2) (e : DEnds) (δ : DEn) : Prop := d e.ex δ fun xs ys => e.rt (.two xs ys)
theorem sv_ret2 {d : D2} (h : O2D K H₀ E t d) : SvD K H₀ E (tRet (tTup t)) (dRet2 d) := fun δ σ G H e D hx S q L =>
  h e.ex δ σ G H _ _ hx S q fun a b vs ws xs ys G1 H1 e1 hab a0 b0 ga gb ha hb va vb q1 => by
    refine ⟨Nat.le_of_lt (small1000 (by simp)), fun p hp => ?_⟩
    have pa : a ≠ p := ne_of_none ha hp
    have pb : b ≠ p := ne_of_none hb hp
    have sm : Same G1 (rm (rm (upd H1 p (.tup [.ref a, .ref b])) a) b) := fun c o z => by
      have hc := e1.s.same c o z
      unfold rm
      rw [if_neg (ne_of_none z gb), if_neg (ne_of_none z ga), upd_ne (ne_of_none hc hp)]
      exact hc
    refine L.rt (.ref p) (.two xs ys) _ (((S.ext e1).oldH).trans fun c o z => by rw [upd_ne (ne_of_none z hp)]; exact z) ⟨p, a, b, vs, ws, rfl, SqT.of upd_same, hab, a0, b0, ?_, ?_, dvs_same sm va, dvs_same sm vb⟩ q1
    · rw [upd_ne pa]; exact ha
    · rw [upd_ne pb]; exact hb
theorem ret_two {G H H' : Hp} {v : V} {s : Sl} {Q : List PyData → List PyData → Prop} (hs : Sub G H) (h : Same H H') (r : RetIs K H H' v s) (q : twoS Q s) :
    ∃ t a b vs ws xs ys G', v = .ref t ∧ SqT K H' t [.ref a, .ref b] ∧ a ≠ b ∧ Ext G H G' H' ∧ H a = none ∧ H b = none ∧ G' a = none ∧ G' b = none ∧ H' a = some (.lst vs) ∧ H' b = some (.lst ws) ∧ DVs K G' vs xs ∧ DVs K G' ws ys ∧ Q xs ys := by
  cases s with
  | exc C => exact r.elim
  | fz _ _ => exact r.elim
  | dat d => exact q.elim
  | own ds => exact q.elim
  | two xs ys =>
    obtain ⟨t, a, b, vs, ws, rfl, ht, hab, na, nb, ha, hb, va, vb⟩ := r
    obtain ⟨f1, f2, q⟩ := q
    have e := ext_grow hs h
    have ga : G a = none := hs.same.free na
    have gb : G b = none := hs.same.free nb
    have fl : ∀ c o, rm (rm H' a) b c = some o → (∀ xs, o ≠ .lst xs) → rm (rm (grow G H H') a) b c = some o := fun c o z n => by
      unfold rm at z ⊢
      split at z
      · cases z
      · rename_i cb
        rw [if_neg cb]
        split at z
        · cases z
        · rename_i ca
          rw [if_neg ca]
          exact grow_flat hs h c o z n
    refine ⟨t, a, b, vs, ws, xs, ys, rm (rm (grow G H H') a) b, rfl, ht, hab, ⟨fun c o z => ?_, h, fun c => ?_, fun c o z => ?_⟩, na, nb, ?_, by unfold rm; rw [if_pos rfl], ha, hb, dvs_flat fl va f1, dvs_flat fl vb f2, q⟩
    · unfold rm
      rw [if_neg (ne_of_none z gb), if_neg (ne_of_none z ga)]
      exact e.g c o z
    · unfold rm
      split
      · rename_i z; subst z
        exact .inr ⟨rfl, ws, hb⟩
      · split
        · rename_i z; subst z
          exact .inr ⟨rfl, vs, ha⟩
        · exact e.s c
    · exact e.n c o (rm2_same _ _ z)
    · unfold rm
      split
      · rfl
      · rw [if_pos rfl]
end
section
variable {K : PySem.W.Frag} {H₀ : Hp} {E : XK}
end
section
variable {K : PySem.W.Frag} {H₀ : Hp} {E : XK} {tb : TE} {db : DE} {dl : DL} {t : TA} {g : TG} {dg : DG} {ns : List Nat}
end
end Dl
namespace Lx
open PySem PySem.Spec PyProof.Rows L2
structure LcOk1 (X : Cx) (scope : Scope) (x : Str) (cl : List (Str × Addr)) (cap : List (Option Nat)) (NC : List Str) : Prop where
  clos : closureFor scope X.env = pure cl
  kind : scope.kind = .function
  one : ∀ n, cellsFrom n scope.names cl = (x, n) :: cl
  push : ∀ h, pushCells h scope.names = h.push { cls := .type "cell", data := .cell none }
  fresh : cl.lookup x = none
  names : ∀ x ∈ scope.names, x.2 = .local → scope.names.lookup x.1 = some .local
  caps : CapsOk X scope cl cap NC
  cells : ∀ p ∈ cl, X.env.cells.lookup p.1 = some p.2
  has : ∀ c : Addr, ((relabel scope X.env).names.all fun p => (p.2 != .cell && p.2 != .free) || (((x, c) :: cl).lookup p.1).isSome) = true
section
variable {X : Cx} {elt target iter : Expr} {ifs : List Expr} {scope : Scope} {pos : Pos} {wi : TI} {cap : List (Option Nat)} {NC : List Str} {cl : List (Str × Addr)} {g : TG} {tt : TT} {te : TE} {x0 : Str}
end
end Lx
namespace Dl
open PySem PySem.Spec PyProof.Rows L2 Lx
section
variable {K : PySem.W.Frag} {H₀ : Hp} {E : XK} {te : TE} {de : DE} {dl : DL} {ta : TA}
end
section
variable {X : Cx}
end
section
variable {K : PySem.W.Frag} {H₀ : Hp} {E : XK} {te : TE} {de : DE} {dl : DL} {t : TA} {tt : TT} {dt : DT} {ts tz : TS} {ds dz : DS}
noncomputable def dRetC20 (w : DW) (dl : DL) (e : DEnds) (δ : DEn) : Prop := dl e.ex δ fun ds => w ds (fun s => match s with
  | .two xs ys => e.rt (.two xs ys)
  | _ => False) fun _ => False
theorem sv_retC20 {w : DW} (ha : AvD K H₀ E t dl) : SvD K H₀ E (tRet (tCall (spW K w) [] E0 t)) (dRetC20 w dl) := fun δ σ G H e D hx S q L =>
  ha e.ex δ σ G H _ _ hx S q fun vs ds G1 H1 e1 h1 q1 => by
    refine ⟨ds, _, fun _ => False, by rw [List.append_nil]; exact h1, q1, fun v s H2 sm r qs => ?_, fun C H2 sm hc => hc.elim⟩
    have old := (S.ext e1).oldH
    cases s with
    | two xs ys =>
      obtain ⟨t, a, b, vs, ws, rfl, ht, hab, na, nb, ha, hb, va, vb⟩ := r
      exact L.rt _ (.two xs ys) H2 (old.trans sm) ⟨t, a, b, vs, ws, rfl, ht, hab, old.free na, old.free nb, ha, hb, va, vb⟩ qs
    | dat d => exact qs.elim
    | own ds => exact qs.elim
    | exc C => exact qs.elim
    | fz _ _ => exact qs.elim
theorem Sees.unsetV {G H : Hp} {δ : DEn} {σ : L2.St} (S : Sees K H₀ G δ σ H) (i : Nat) (x : Option V) : Sees K H₀ G (put none i δ) (σ.set i x) H := by
  have look : ∀ j u, slot (put none i δ) j = some u → j ≠ i ∧ slot δ j = some u := fun j u hj => by
    rw [slot_put] at hj
    split at hj
    · cases hj
    · rename_i hc
      exact ⟨fun z => hc ⟨z, by rw [← z]; exact slot_lt hj⟩, hj⟩
  refine ⟨S.old, S.sub, by rw [put_len, List.length_set]; exact S.len, fun j u hj => ?_, fun j k xs ys a hj hk e1 e2 => ?_⟩
  · obtain ⟨n1, h1⟩ := look j u hj
    rw [List.getElem?_set_ne (Ne.symm n1)]
    exact S.has j u h1
  · obtain ⟨n1, h1⟩ := look j _ hj
    obtain ⟨n2, h2⟩ := look k _ hk
    rw [List.getElem?_set_ne (Ne.symm n1)] at e1
    rw [List.getElem?_set_ne (Ne.symm n2)] at e2
    exact S.sep j k xs ys a h1 h2 e1 e2
theorem sqT_sub {G H : Hp} (s : Sub G H) {a : Addr} {xs : List V} (h : SqT K H a xs) : SqT K G a xs := by
  rcases h with (h | ⟨o, h⟩) | h
  · exact .inl (.inl (s.other h (by intro xs z; cases z)))
  · exact .inl (.inr ⟨o, s.other h (by intro xs z; cases z)⟩)
  · exact .inr h
end
noncomputable abbrev IsZ (h : Heap) (z TI TO : Addr) (f0 f1 : Value) : Prop := h.get? z = some { cls := .type "zip", dict := none, data := .fields #[f0, f1, .bool false, .ref TI, .ref TO], slots := #[] }
section
variable {prog : Program} {w : World} {A : Around} {E : Value → Shared → Prop} {s : Shared}
structure ZSt (h : Heap) (z TI TO i1 i2 l1 l2 base : Addr) (i : Nat) (xs ys : Array Value) : Prop where
  z : IsZ h z TI TO .none (.bool false) ∨ ∃ (T : Addr) (b : Bool) (o : Obj), IsZ h z TI TO (rawInt (T : Int)) (.bool b) ∧ base ≤ T ∧ h.get? T = some o
  ti : IsPair h TI (.ref i1) (.ref i2)
  to : ∃ a b, IsPair h TO a b
  i1 : h.IsListIter i1 l1 i
  i2 : h.IsListIter i2 l2 i
  l1 : h.IsList l1 xs
  l2 : h.IsList l2 ys
end
section
variable {prog : Program} {w : World} {A : Around} {R : Result → Shared → Prop}
end
section
variable {prog : Program} {w : World} {A : Around} {s : Shared} {R : Result → Shared → Prop}
variable {z TI TO i1 i2 l1 l2 S base n : Nat} {xs ys : Array Value}
end
section
variable {prog : Program} {w : World} {A : Around} {E : Value → Shared → Prop} {s : Shared}
end
section
variable {X : Cx} {K : PySem.W.Frag}
end
section
variable {K : PySem.W.Frag} {H₀ : Hp} {E : XK} {ta tb : TE} {dl dk : DL}
end
section
variable {X : Cx} {K : PySem.W.Frag}
end
section
variable {X : Cx} {K : PySem.W.Frag}
end
section
variable {K : PySem.W.Frag} {H₀ : Hp} {E : XK} {te ta tb : TE} {da de : DE} {dl dk : DL}
end
section
variable {K : PySem.W.Frag} {H₀ : Hp} {E : XK} {dl : DL} {t : TA} {g : TG} {dg : DG} {ns : List Nat}
end
section
variable {X : Cx} {K : PySem.W.Frag}
end
section
variable {K : PySem.W.Frag} {H₀ : Hp} {E : XK} {te ta tb : TE} {da db : DE} {dl : DL}
end
section
variable {prog : Program} {w : World} {A : Around} {E : Value → Shared → Prop} {s : Shared}
end
section
variable {prog : Program} {w : World} {A : Around} {E : Value → Shared → Prop} {s : Shared}
end
section
variable {X : Cx} {K : PySem.W.Frag}
end
section
variable {K : PySem.W.Frag} {H₀ : Hp} {E : XK} {ta tb : TE} {da db : DE}
end
noncomputable def dFzV (i : Nat) (_ex : DX) (δ : DEn) (Q : PyData → Prop) : Prop := match slot δ i with
  | some (.fz _ d) => Q d
  | _ => False
noncomputable def mask : List Bool → DEn → DEn
  | true :: bs, x :: xs => x :: mask bs xs
  | false :: bs, _ :: xs => none :: mask bs xs
  | _, _ => []
theorem mask_len : ∀ (bs : List Bool) (δ : DEn), (mask bs δ).length ≤ δ.length
  | true :: bs, x :: xs => by simp only [mask, List.length_cons]; have := mask_len bs xs; omega
  | false :: bs, x :: xs => by simp only [mask, List.length_cons]; have := mask_len bs xs; omega
  | [], _ => by simp [mask]
  | true :: _, [] => by simp [mask]
  | false :: _, [] => by simp [mask]
theorem mask_slot : ∀ {bs : List Bool} {δ : DEn} {i : Nat} {s : Sl}, slot (mask bs δ) i = some s → slot δ i = some s
  | true :: bs, x :: xs, 0, s, h => h
  | true :: bs, x :: xs, i + 1, s, h => mask_slot (bs := bs) (δ := xs) (i := i) h
  | false :: bs, x :: xs, 0, s, h => by cases h
  | false :: bs, x :: xs, i + 1, s, h => mask_slot (bs := bs) (δ := xs) (i := i) h
  | [], _, _, _, h => by cases h
  | true :: _, [], _, _, h => by cases h
  | false :: _, [], _, _, h => by cases h
noncomputable def okT (a b : Addr) : DEn → Prop
  | [] => True
  | none :: r => okT a b r
  | some (.dat d) :: r => flatD d = true ∧ okT a b r
  | some (.fz [m] (.list ds)) :: r => m ≠ a ∧ m ≠ b ∧ flatDs ds = true ∧ okT a b r
  | _ :: _ => False
theorem okT_at {a b : Addr} : ∀ {δ : DEn} {i : Nat} {s : Sl}, okT a b δ → slot δ i = some s → (∃ d, s = .dat d ∧ flatD d = true) ∨ ∃ m ds, s = .fz [m] (.list ds) ∧ m ≠ a ∧ m ≠ b ∧ flatDs ds = true
  | [], _, _, _, e => by cases e
  | none :: r, 0, _, _, e => by cases e
  | none :: r, i + 1, s, h, e => okT_at (δ := r) (i := i) h e
  | some (.dat d) :: r, 0, _, h, e => by cases e; exact .inl ⟨d, rfl, h.1⟩
  | some (.dat d) :: r, i + 1, s, h, e => okT_at (δ := r) (i := i) h.2 e
  | some (.fz [m] (.list ds)) :: r, 0, _, h, e => by cases e; exact .inr ⟨m, ds, rfl, h.1, h.2.1, h.2.2.1⟩
  | some (.fz [m] (.list ds)) :: r, i + 1, s, h, e => okT_at (δ := r) (i := i) h.2.2.2 e
section
variable {K : PySem.W.Frag} {H₀ : Hp} {E : XK} {te : TE} {de : DE} {dl : DL} {t : TA} {ts tz : TS} {ds : DS} {w : DW}
theorem ev_fz (i : Nat) : EvD K H₀ E (tVar i) (dFzV i) := fun ex δ σ G H Qd Q hx S q k => by
  unfold dFzV at q
  split at q
  · rename_i as d hs
    obtain ⟨v, h1, h2⟩ := S.has i _ hs
    exact ⟨v, h1, k v d G H S.refl (FzIs.dv h2) q⟩
  · exact q.elim
noncomputable def dPair (w : DW) (dl : DL) (f : Nat) (dz : Addr → Addr → DS) (e : DEnds) (δ : DEn) : Prop := dl e.ex δ fun as => w as (twoS fun xs ys => ∀ a b, dz a b e (put (some (.fz [a, b] (.tuple [.list xs, .list ys]))) f δ)) fun _ => False
theorem sv_pair (f : Nat) {dz : Addr → Addr → DS} (ha : AvD K H₀ E t dl) (hz : ∀ a b, H₀ a = none → H₀ b = none → SvD K H₀ E tz (dz a b)) : SvD K H₀ E (tSeq (tAsg (tCall (spW K w) [] E0 t) (gName f)) tz) (dPair w dl f dz) := fun δ σ G H e D hx S q L =>
  ha e.ex δ σ G H _ _ hx S q fun vs0 as G1 H1 e1 h1 q1 => by
    refine ⟨as, _, fun _ => False, by rw [List.append_nil]; exact h1, q1, fun v s H2 sm r qs => ?_, fun C H2 sm hc => hc.elim⟩
    obtain ⟨t, a, b, vs, ws, xs, ys, G', rfl, hT, hab, e2, na, nb, ga, gb, ha, hb2, va, vb, q2⟩ := ret_two e1.s sm r qs
    have Gf : Same G' (upd (upd G' a (.lst vs)) b (.lst ws)) := fun c o z => by
      rw [upd_ne (ne_of_none z gb), upd_ne (ne_of_none z ga)]; exact z
    obtain ⟨G2, hG2⟩ : ∃ G2 : Hp, upd (upd G' a (.lst vs)) b (.lst ws) = G2 := ⟨_, rfl⟩
    have g2a : G2 a = some (.lst vs) := by rw [← hG2, upd_ne hab, upd_same]
    have g2b : G2 b = some (.lst ws) := by rw [← hG2, upd_same]
    have g2n : ∀ c, c ≠ a → c ≠ b → G2 c = G' c := fun c h1 h2 => by rw [← hG2, upd_ne h2, upd_ne h1]
    rw [hG2] at Gf
    have e2f : Ext G1 H1 G2 H2 := by
      refine ⟨e2.g.trans Gf, e2.h, fun c => ?_, fun c o z => ?_⟩
      · by_cases h1 : c = a
        · subst h1; exact .inl (by rw [g2a, ha])
        · by_cases h2 : c = b
          · subst h2; exact .inl (by rw [g2b, hb2])
          · rw [g2n c h1 h2]; exact e2.s c
      · by_cases h1 : c = a
        · subst h1; exact .inr na
        · by_cases h2 : c = b
          · subst h2; exact .inr nb
          · rw [g2n c h1 h2] at z; exact e2.n c o z
    have hv : FzIs K G2 (.ref t) [a, b] (.tuple [.list xs, .list ys]) := .pair (sqT_sub e2f.s hT) hab g2a g2b (dvs_same Gf va) (dvs_same Gf vb)
    have S1 := ((S.ext e1).ext e2f).setS f (s := .fz [a, b] (.tuple [.list xs, .list ys])) hv fun _ _ _ _ z => nomatch z
    have o1 := (S.ext e1).oldH
    exact hz a b (o1.free na) (o1.free nb) _ _ G2 H2 e D hx S1 (q2 a b) (L.mono (e1.g.trans e2f.g))
noncomputable def dFrzL (i f : Nat) (ds : DS) (e : DEnds) (δ : DEn) : Prop := match slot δ i, slot δ f with
  | some (.own xs), some (.fz [a, b] _) => ∀ m, m ≠ a → m ≠ b → ds e (put (some (.fz [m] (.list xs))) i δ)
  | _, _ => False
theorem Sees.frzL {G H : Hp} {δ : DEn} {σ : L2.St} {i : Nat} {xs : List PyData} (S : Sees K H₀ G δ σ H) (h : slot δ i = some (.own xs)) : ∃ m G', G m = none ∧ Same G G' ∧ Sees K H₀ G' (put (some (.fz [m] (.list xs))) i δ) σ H := by
  obtain ⟨a, vs, q1, q2, q3, q4⟩ := S.ownAt h
  obtain ⟨v0, w1, w2⟩ := S.has i _ h
  have sg : Same G (upd G a (.lst vs)) := fun b o e => by rw [upd_ne (ne_of_none e q2)]; exact e
  have look : ∀ j u, slot (put (some (.fz [a] (.list xs))) i δ) j = some u → (j = i ∧ u = .fz [a] (.list xs)) ∨ (j ≠ i ∧ slot δ j = some u) := fun j u hj => by
    rw [slot_put] at hj
    split at hj
    · rename_i hc
      cases hj
      exact .inl ⟨hc.1, rfl⟩
    · rename_i hc
      exact .inr ⟨fun z => hc ⟨z, by rw [← z]; exact slot_lt hj⟩, hj⟩
  refine ⟨a, upd G a (.lst vs), q2, sg, S.old.trans sg, fun b => ?_, by rw [put_len]; exact S.len, fun j u hj => ?_, fun j k xs' ys' c hj hk e1 e2 => ?_⟩
  · by_cases z : b = a
    · subst z
      exact .inl (by rw [upd_same, q3])
    · rw [upd_ne z]; exact S.sub b
  · rcases look j u hj with ⟨rfl, rfl⟩ | ⟨n1, h1⟩
    · exact ⟨_, q1, FzIs.one upd_same (dvs_same sg q4)⟩
    · obtain ⟨v, h2, h3⟩ := S.has j u h1
      refine ⟨v, h2, ?_⟩
      cases u with
      | dat d => exact dv_same sg h3
      | two xs ys => exact h3.elim
      | fz as d => exact FzIs.same sg h3
      | exc C =>
        obtain ⟨x, rfl, hx⟩ := h3
        exact ⟨x, rfl, sg _ _ hx⟩
      | own zs =>
        obtain ⟨c, ws, rfl, p1, p2, p3⟩ := h3
        refine ⟨c, ws, rfl, ?_, p2, dvs_same sg p3⟩
        rw [upd_ne (fun z => ?_)]
        · exact p1
        · subst z
          exact n1 (S.sep j i zs xs c h1 h h2 q1)
  · rcases look j _ hj with ⟨_, z⟩ | ⟨n1, h1⟩
    · cases z
    · rcases look k _ hk with ⟨_, z⟩ | ⟨n2, h2⟩
      · cases z
      · exact S.sep j k xs' ys' c h1 h2 e1 e2
theorem sv_frzL (i f : Nat) (h : SvD K H₀ E ts ds) : SvD K H₀ E ts (dFrzL i f ds) := fun δ σ G H e D hx S q L => by
  unfold dFrzL at q
  split at q
  · rename_i xs a b d hs hf
    obtain ⟨m, G', hm, s, S'⟩ := S.frzL hs
    obtain ⟨v, h1, h2⟩ := S.has f _ hf
    have hn : m ≠ a ∧ m ≠ b := by
      cases h2 with
      | pair _ _ h3 h4 => exact ⟨(fun z => by rw [z, h3] at hm; cases hm), (fun z => by rw [z, h4] at hm; cases hm)⟩
    exact h _ σ G' H e D hx S' (q m hn.1 hn.2) (L.mono s)
  · exact q.elim
end
section
variable {K : PySem.W.Frag} {H₀ : Hp} {E : XK} {ta tb : TE} {da db : DE}
end
section
variable {K : PySem.W.Frag} {H₀ : Hp} {E : XK} {ta tb tc : TE} {da db dc : DE} {f g : Int → Int → Bool}
noncomputable def dChain (f g : Int → Int → Bool) (da db dc : DE) (ex : DX) (δ : DEn) (Q : PyData → Prop) : Prop := da ex δ fun x => db ex δ fun y => match x, y with
  | .int i, .int j => if f i j = true then dc ex δ fun z => (match z with
    | .int l => Q (.bool (g j l))
    | _ => False) else Q (.bool false)
  | _, _ => False
theorem ev_chain (ha : BvD K H₀ E ta da) (hb : BvD K H₀ E tb db) (hc : BvD K H₀ E tc dc) : EvD K H₀ E (tChain (rI0 fun i j => .bl (f i j)) (rI0 fun i j => .bl (g i j)) ta tb tc) (dChain f g da db dc) := fun ex δ σ G H Qd Q hx S q k =>
  ha ex δ σ G H _ _ hx S q fun v d1 G1 H1 e1 h1 q1 => hb ex δ σ G1 H1 _ _ hx (S.ext e1) q1 fun u d2 G2 H2 e2 h2 q2 => by
    have e0 := e1.trans e2
    split at q2
    · rename_i i j
      refine ⟨i, j, dv_int h1, dv_int h2, f i j, rfl, ?_⟩
      split at q2
      · rename_i c
        rw [if_pos c]
        refine hc ex δ σ G2 H2 _ _ hx (S.ext e0) q2 fun z d3 G3 H3 e3 h3 q3 => ?_
        split at q3
        · rename_i l
          exact ⟨j, l, dv_int h2, dv_int h3, k _ _ G3 H3 (e0.trans e3) (.bl _) q3⟩
        · exact q3.elim
      · rename_i c
        rw [if_neg c]
        exact k _ _ G2 H2 e0 (.bl _) q2
    · exact q2.elim
end
section
variable {X : Cx} {e es : Expr} {te : TE} {ts : TO} {pos p2 : Pos}
end
section
variable {K : PySem.W.Frag} {H₀ : Hp} {E : XK} {te : TE} {dl : DL} {t1 : TO} {d1 : DO}
end
section
variable {K : PySem.W.Frag} {H₀ : Hp} {E : XK}
end
section
variable {K : PySem.W.Frag} {H₀ : Hp} {E : XK} {te : TE} {de : DE} {dl : DL} {t : TA} {ts tz : TS} {ds : DS} {w : DW}
noncomputable def dUnp (f n p : Nat) (e : DEnds) (δ : DEn) : Prop := match slot δ f with
  | some (.fz [a, b] (.tuple [.list xs, .list ys])) => e.nx (put (some (.fz [b] (.list ys))) p (put (some (.fz [a] (.list xs))) n δ))
  | _ => False
theorem sv_unp (f n p : Nat) : SvD K H₀ E (tAsg (tVar f) (gTup K 2 (gCons (gName n) (gCons (gName p) gNil)))) (dUnp f n p) := fun δ σ G H e D hx S q L => by
  unfold dUnp at q
  split at q
  · rename_i a b xs ys hs
    obtain ⟨v, h1, h2⟩ := S.has f _ hs
    cases h2 with
    | pair hT hab ga gb dx dy =>
      refine ⟨_, h1, _, _, rfl, sqT_same S.sub.same hT, rfl, _, _, rfl, _, _, rfl, rfl, L.nx _ _ G H (Same.refl _) ?_ q⟩
      exact ((S.setS n (s := .fz [a] (.list xs)) (FzIs.one ga dx) fun _ _ _ _ z => nomatch z).setS p (s := .fz [b] (.list ys)) (FzIs.one gb dy) fun _ _ _ _ z => nomatch z)
  · exact q.elim
noncomputable def dThaw2 (a b : Addr) (f n p2 kp : Nat) (bs : List Bool) (d : D2) (de : DE) (dz : DS) (e : DEnds) (δ : DEn) : Prop := d e.ex δ fun us ws => match slot δ f, slot δ n, slot δ p2 with
  | some (.fz as (.tuple [.list xs, .list ys])), some (.fz [c1] (.list _)), some (.fz [c2] (.list _)) => as = [a, b] ∧ a = c1 ∧ b = c2 ∧ xs.length < 1000 ∧ flatDs us = true ∧ flatDs ws = true ∧ okT a b (mask bs δ) ∧ de e.ex (put none kp δ) fun _ =>
      dz { e with nx := fun _ => False, ct := fun _ => False, bk := fun _ => False } (put (some (.dat (.tuple [.list us, .list ws]))) kp (mask bs δ))
  | _, _, _ => False
theorem sv_thaw2 {a b : Addr} (f n p2 kp : Nat) (bs : List Bool) (hnk : n ≠ kp) (hpk : p2 ≠ kp) {d : D2} {dz : DS} (a0 : H₀ a = none) (b0 : H₀ b = none) (h2 : O2D K H₀ E t d) (he : EvD K H₀ E te de) (hz : SvD K H₀ E tz dz) :
    SvD K H₀ E (tSeq (tAsg (tTup t) (gName kp)) (tSeq (tDrop (tBM K "list" rAppend (tVar n) (tCons te tNil))) (tSeq (tDrop (tBM0 K "list" rClear (tVar p2))) tz))) (dThaw2 a b f n p2 kp bs d de dz) := fun δ σ G H e D hx S q L =>
  h2 e.ex δ σ G H _ _ hx S q fun a' b' vu vw us ws G1 H1 e1 hab' a0' b0' ga' gb' ha' hb' va' vb' q1 => by
    split at q1
    · rename_i as xs ys c1 e1' c2 e2' hs hn hp2
      obtain ⟨rfl, rfl, rfl, lx, fu, fw, ok, q2⟩ := q1
      refine ⟨Nat.le_of_lt (small1000 (by simp)), fun p hp => ?_⟩
      have S1 := S.ext e1
      obtain ⟨v, sv, s2⟩ := S1.has f _ hs
      obtain ⟨t0, vs, ws0, rfl, hT, hab, g1a, g1b, dx, dy⟩ : ∃ t0 vs ws0, v = .ref t0 ∧ SqT K G1 t0 [.ref a, .ref b] ∧ a ≠ b ∧ G1 a = some (.lst vs) ∧ G1 b = some (.lst ws0) ∧ DVs K G1 vs xs ∧ DVs K G1 ws0 ys := by
        cases s2 with
        | pair h1 h2 h3 h4 h5 h6 => exact ⟨_, _, _, rfl, h1, h2, h3, h4, h5, h6⟩
      obtain ⟨v1, sv1, z1⟩ := S1.has n _ hn
      obtain ⟨v2, sv2, z2⟩ := S1.has p2 _ hp2
      cases z1
      cases z2
      have naa : a' ≠ a := fun z => by rw [z, g1a] at ga'; cases ga'
      have nab : a' ≠ b := fun z => by rw [z, g1b] at ga'; cases ga'
      have nba : b' ≠ a := fun z => by rw [z, g1a] at gb'; cases gb'
      have nbb : b' ≠ b := fun z => by rw [z, g1b] at gb'; cases gb'
      have e2 := ext_new (xs := [.ref a', .ref b']) e1.s hp
      have S2 := (S1.ext e2).unsetV kp (some (.ref p))
      have sn : (σ.set kp (some (.ref p)))[n]? = some (some (.ref a)) := by rw [List.getElem?_set_ne (Ne.symm hnk)]; exact sv1
      have sp : (σ.set kp (some (.ref p)))[p2]? = some (some (.ref b)) := by rw [List.getElem?_set_ne (Ne.symm hpk)]; exact sv2
      have h2a := e2.s.same _ _ (e2.g _ _ g1a)
      refine ⟨_, sn, .inl ⟨rfl, _, SqL.of h2a⟩, he e.ex _ _ _ _ _ _ hx S2 q2 fun y dy' G3 H3 e3 hy q3 => ?_⟩
      have g3a : G3 a = some (.lst vs) := e3.g _ _ (e2.g _ _ g1a)
      have g3b : G3 b = some (.lst ws0) := e3.g _ _ (e2.g _ _ g1b)
      have h3a := e3.s.same _ _ g3a
      have h3b := e3.s.same _ _ g3b
      obtain ⟨GT, hGT⟩ : ∃ GT : Hp, rm (rm G3 a) b = GT := ⟨_, rfl⟩
      have gtv : ∀ c, GT c = if c = b then none else if c = a then none else G3 c := fun c => by rw [← hGT]; rfl
      have gtb : GT b = none := by rw [gtv, if_pos rfl]
      have gta : GT a = none := by rw [gtv, if_neg hab, if_pos rfl]
      have gtn : ∀ c, c ≠ a → c ≠ b → GT c = G3 c := fun c h1 h2 => by rw [gtv, if_neg h2, if_neg h1]
      have fl : ∀ c o, G3 c = some o → (∀ xs, o ≠ .lst xs) → GT c = some o := fun c o z n => by
        rw [gtn c (fun q => by rw [q, g3a] at z; cases z; exact n _ rfl) (fun q => by rw [q, g3b] at z; cases z; exact n _ rfl)]
        exact z
      have g3a' : G3 a' = none := e3.keep (e2.keep ga' ha') (e2.h _ _ ha')
      have g3b' : G3 b' = none := e3.keep (e2.keep gb' hb') (e2.h _ _ hb')
      have h3a' := e3.h _ _ (e2.h _ _ ha')
      have h3b' := e3.h _ _ (e2.h _ _ hb')
      have h4b : upd H3 a (.lst (vs ++ [y])) b = some (.lst ws0) := by rw [upd_ne (Ne.symm hab)]; exact h3b
      refine ⟨a, vs, y, rfl, rfl, h3a, small1000 (by rw [dx.len]; omega), ⟨_, sp, .inl ⟨rfl, _, SqL.of h4b⟩, b, ws0, rfl, rfl, h4b, ?_⟩⟩
      obtain ⟨GF, hGF⟩ : ∃ GF : Hp, upd (upd GT a' (.lst vu)) b' (.lst vw) = GF := ⟨_, rfl⟩
      have gfa : GF a' = some (.lst vu) := by rw [← hGF, upd_ne hab', upd_same]
      have gfb : GF b' = some (.lst vw) := by rw [← hGF, upd_same]
      have gfn : ∀ c, c ≠ a' → c ≠ b' → GF c = GT c := fun c h1 h2 => by rw [← hGF, upd_ne h2, upd_ne h1]
      have gta' : GT a' = none := by rw [gtn _ naa nab]; exact g3a'
      have gtb' : GT b' = none := by rw [gtn _ nba nbb]; exact g3b'
      have sF : Same GT GF := fun c o z => by rw [gfn c (ne_of_none z gta') (ne_of_none z gtb')]; exact z
      have fl2 : ∀ c o, G1 c = some o → (∀ xs, o ≠ .lst xs) → GF c = some o := fun c o z n => sF _ _ (fl c o (e3.g _ _ (e2.g _ _ z)) n)
      have gfp : GF p = some (.tup [.ref a', .ref b']) := sF _ _ (fl p _ (e3.g _ _ upd_same) (by intro xs z; cases z))
      have S5 : Sees K H₀ GF (put (some (.dat (.tuple [.list us, .list ws]))) kp (mask bs δ)) (σ.set kp (some (.ref p))) (upd (upd H3 a (.lst (vs ++ [y]))) b (.lst [])) := by
        refine ⟨fun c o z => ?_, fun c => ?_, ?_, fun i s hi => ?_, fun i j xs ys c hi => ?_⟩
        · refine sF _ _ ?_
          rw [gtn c (ne_of_none z a0) (ne_of_none z b0)]
          exact e3.g _ _ (e2.g _ _ (S1.old c o z))
        · by_cases c1 : c = a'
          · rw [c1]; exact .inl (by rw [gfa, upd_ne nab, upd_ne naa]; exact h3a'.symm)
          · by_cases c2 : c = b'
            · rw [c2]; exact .inl (by rw [gfb, upd_ne nbb, upd_ne nba]; exact h3b'.symm)
            · rw [gfn c c1 c2]
              by_cases c3 : c = b
              · rw [c3]; exact .inr ⟨gtb, _, upd_same⟩
              · rw [upd_ne c3]
                by_cases c4 : c = a
                · rw [c4]; exact .inr ⟨gta, _, upd_same⟩
                · rw [upd_ne c4, gtn c c4 c3]; exact e3.s c
        · rw [put_len, List.length_set]
          exact Nat.le_trans (mask_len bs δ) S.len
        · rw [slot_put] at hi
          split at hi
          · rename_i hc
            obtain ⟨rfl, hl⟩ := hc
            cases hi
            exact ⟨_, List.getElem?_set_self (Nat.lt_of_lt_of_le (Nat.lt_of_lt_of_le hl (mask_len bs δ)) S.len), .tup (SqT.of gfp) (.cons (.lst (SqL.of gfa) (dvs_flat fl2 va' fu)) (.cons (.lst (SqL.of gfb) (dvs_flat fl2 vb' fw)) .nil))⟩
          · rename_i hc
            have hik : i ≠ kp := fun z => hc ⟨z, by rw [← z]; exact slot_lt hi⟩
            obtain ⟨v, w1, w2⟩ := S1.has i s (mask_slot hi)
            refine ⟨v, by rw [List.getElem?_set_ne (Ne.symm hik)]; exact w1, ?_⟩
            rcases okT_at ok hi with ⟨d, rfl, fd⟩ | ⟨m, ds, rfl, n1, n2, fd⟩
            · exact dv_flat fl2 w2 fd
            · cases w2 with
              | one g1 g2 =>
                refine FzIs.one (sF _ _ ?_) (dvs_flat fl2 g2 fd)
                rw [gtn m n1 n2]
                exact e3.g _ _ (e2.g _ _ g1)
        · rw [slot_put] at hi
          split at hi
          · cases hi
          · rcases okT_at ok hi with ⟨d, z, _⟩ | ⟨m, ds, z, _⟩ <;> cases z
      exact hz _ _ GF _ { e with nx := fun _ => False, ct := fun _ => False, bk := fun _ => False } D hx S5 q3 ⟨fun _ _ _ _ _ _ z => z.elim, L.rt, fun _ _ _ _ _ _ z => z.elim, fun _ _ _ _ _ _ z => z.elim⟩
    · exact q1.elim
end
section
variable {K : PySem.W.Frag} {H₀ : Hp} {E : XK} {te ta tb : TE} {de da db : DE} {t1 t2 : TO} {d1 d2 : DO}
end
section
variable {K : PySem.W.Frag} {H₀ : Hp} {E : XK} {tb : TE} {db : DE} {dl : DL} {t : TA} {g : TG} {dg : DG} {ns : List Nat}
end
section
variable {K : PySem.W.Frag} {H₀ : Hp} {E : XK} {te : TE} {de : DE} {ta : TA} {dl : DL} {ts : TS} {ds : DS} {g : TG} {dg : DG} {ns : List Nat}
end
section
variable {X : Cx}
end
section
variable {K : PySem.W.Frag} {H₀ : Hp} {E : XK} {te : TE} {de : DE} {dl : DL} {t : TA} {tt : TT} {dt : DT} {ts tz : TS} {ds dz : DS}
end
section
variable {K : PySem.W.Frag} {H₀ : Hp} {E : XK}
noncomputable def dMFz (i : Nat) (_ex : DX) (δ : DEn) (Q : List PyData → Prop) : Prop := match slot δ i with
  | some (.fz [_] (.list ds)) => Q ds
  | _ => False
theorem mv_fz (i : Nat) : MvD K H₀ E (tVar i) (dMFz i) := fun ex δ σ G H Qd Q hx S q k => by
  unfold dMFz at q
  split at q
  · rename_i m ds hs
    obtain ⟨v, h1, h2⟩ := S.has i _ hs
    cases h2 with
    | one hg hd => exact ⟨_, h1, k _ _ ds G H S.refl (S.sub.same _ _ hg) hd q⟩
  · exact q.elim
end
end Dl
namespace My
open PySem PySem.Spec PyProof.Rows L2 Lx Dl
noncomputable def top (i : Nat) : Stmt := PySem.Challenge.pw_leastmiss_k32_bent_by_squares_walked.main.body.getD i (.Pass ⟨0, 0, 0, 0⟩)
noncomputable abbrev s_common_divisor : Stmt := top 8
theorem sc_common_divisor : FnScope ["one", "other", "rest"] ["one", "other"] (defScope s_common_divisor) := ⟨rfl, rfl, rfl, by decide +kernel, rfl, by decide +kernel, by decide +kernel⟩
noncomputable abbrev s_fraction : Stmt := top 9
theorem sc_fraction : FnScope ["top", "bottom", "divisor"] ["top", "bottom"] (defScope s_fraction) := ⟨rfl, rfl, rfl, by decide +kernel, rfl, by decide +kernel, by decide +kernel⟩
noncomputable abbrev s_plus : Stmt := top 10
theorem sc_plus : FnScope ["one", "other", "shared", "rest", "top", "divisor"] ["one", "other"] (defScope s_plus) := ⟨rfl, rfl, rfl, by decide +kernel, rfl, by decide +kernel, by decide +kernel⟩
noncomputable abbrev s_minus : Stmt := top 11
theorem sc_minus : FnScope ["one", "other"] ["one", "other"] (defScope s_minus) := ⟨rfl, rfl, rfl, by decide +kernel, rfl, by decide +kernel, by decide +kernel⟩
noncomputable abbrev s_product : Stmt := top 12
theorem sc_product : FnScope ["one", "other", "left", "right"] ["one", "other"] (defScope s_product) := ⟨rfl, rfl, rfl, by decide +kernel, rfl, by decide +kernel, by decide +kernel⟩
noncomputable abbrev s_quotient : Stmt := top 13
theorem sc_quotient : FnScope ["one", "other"] ["one", "other"] (defScope s_quotient) := ⟨rfl, rfl, rfl, by decide +kernel, rfl, by decide +kernel, by decide +kernel⟩
noncomputable abbrev s_is_less : Stmt := top 14
theorem sc_is_less : FnScope ["one", "other"] ["one", "other"] (defScope s_is_less) := ⟨rfl, rfl, rfl, by decide +kernel, rfl, by decide +kernel, by decide +kernel⟩
noncomputable abbrev s_size_of : Stmt := top 15
theorem sc_size_of : FnScope ["one"] ["one"] (defScope s_size_of) := ⟨rfl, rfl, rfl, by decide +kernel, rfl, by decide +kernel, by decide +kernel⟩
noncomputable abbrev s_total_of : Stmt := top 16
theorem sc_total_of : FnScope ["some", "total", "one"] ["some"] (defScope s_total_of) := ⟨rfl, rfl, rfl, by decide +kernel, rfl, by decide +kernel, by decide +kernel⟩
noncomputable abbrev s_greatest_of : Stmt := top 17
theorem sc_greatest_of : FnScope ["some", "greatest", "one"] ["some"] (defScope s_greatest_of) := ⟨rfl, rfl, rfl, by decide +kernel, rfl, by decide +kernel, by decide +kernel⟩
noncomputable abbrev s_solved : Stmt := top 19
theorem sc_solved : FnScope ["table", "right", "rows", "column"] ["table", "right"] (defScope s_solved) := ⟨rfl, rfl, rfl, by decide +kernel, rfl, by decide +kernel, by decide +kernel⟩
noncomputable abbrev s_cleared : Stmt := top 20
theorem sc_cleared : FnScope ["rows", "column", "spot", "found", "leader", "others"] ["rows", "column"] (defScope s_cleared) := ⟨rfl, rfl, rfl, by decide +kernel, rfl, by decide +kernel, by decide +kernel⟩
noncomputable abbrev s_leading_spot : Stmt := top 21
theorem sc_leading_spot : FnScope ["rows", "column", "spots"] ["rows", "column"] (defScope s_leading_spot) := ⟨rfl, rfl, rfl, by decide +kernel, rfl, by decide +kernel, by decide +kernel⟩
noncomputable abbrev s_without : Stmt := top 22
theorem sc_without : FnScope ["row", "leader", "column"] ["row", "leader", "column"] (defScope s_without) := ⟨rfl, rfl, rfl, by decide +kernel, rfl, by decide +kernel, by decide +kernel⟩
noncomputable abbrev s_height_at : Stmt := top 25
theorem sc_height_at : FnScope ["numbers", "x", "height", "number"] ["numbers", "x"] (defScope s_height_at) := ⟨rfl, rfl, rfl, by decide +kernel, rfl, by decide +kernel, by decide +kernel⟩
noncomputable abbrev s_row_of : Stmt := top 26
theorem sc_row_of : FnScope ["numbers", "marks"] ["numbers", "marks"] (defScope s_row_of) := ⟨rfl, rfl, rfl, by decide +kernel, rfl, by decide +kernel, by decide +kernel⟩
noncomputable abbrev s_powers_of : Stmt := top 27
theorem sc_powers_of : FnScope ["x", "count", "powers", "power", "step"] ["x", "count"] (defScope s_powers_of) := ⟨rfl, rfl, rfl, by decide +kernel, rfl, by decide +kernel, by decide +kernel⟩
noncomputable abbrev s_bent_through : Stmt := top 28
theorem sc_bent_through : FnScope ["marks", "table"] ["marks"] (defScope s_bent_through) := ⟨rfl, rfl, rfl, by decide +kernel, rfl, by decide +kernel, by decide +kernel⟩
noncomputable abbrev s_moments_of : Stmt := top 29
theorem sc_moments_of : FnScope ["marks", "terms", "count", "moments", "step"] ["marks", "terms", "count"] (defScope s_moments_of) := ⟨rfl, rfl, rfl, by decide +kernel, rfl, by decide +kernel, by decide +kernel⟩
noncomputable abbrev s_is_even : Stmt := top 30
theorem sc_is_even : FnScope ["marks", "pulls", "bend"] ["marks", "pulls", "bend"] (defScope s_is_even) := ⟨rfl, rfl, rfl, by decide +kernel, rfl, by decide +kernel, by decide +kernel⟩
noncomputable abbrev s_misses_of : Stmt := top 32
theorem sc_misses_of : FnScope ["marks", "row"] ["marks", "row"] (defScope s_misses_of) := ⟨rfl, rfl, rfl, by decide +kernel, rfl, by decide +kernel, by decide +kernel⟩
noncomputable abbrev s_check_kind : Stmt := top 35
theorem sc_check_kind : FnScope ["kind"] ["kind"] (defScope s_check_kind) := ⟨rfl, rfl, rfl, by decide +kernel, rfl, by decide +kernel, by decide +kernel⟩
noncomputable abbrev s_weighed_misses : Stmt := top 36
theorem sc_weighed_misses : FnScope ["marks", "row"] ["marks", "row"] (defScope s_weighed_misses) := ⟨rfl, rfl, rfl, by decide +kernel, rfl, by decide +kernel, by decide +kernel⟩
noncomputable abbrev s_is_fair : Stmt := top 37
theorem sc_is_fair : FnScope ["kind", "marks", "row", "pulls"] ["kind", "marks", "row", "pulls"] (defScope s_is_fair) := ⟨rfl, rfl, rfl, by decide +kernel, rfl, by decide +kernel, by decide +kernel⟩
noncomputable abbrev s_is_fair_far : Stmt := top 38
theorem sc_is_fair_far : FnScope ["misses", "pulls", "greatest", "miss", "pull"] ["misses", "pulls"] (defScope s_is_fair_far) := ⟨rfl, rfl, rfl, by decide +kernel, rfl, by decide +kernel, by decide +kernel⟩
noncomputable abbrev s_has_sign_of : Stmt := top 39
theorem sc_has_sign_of : FnScope ["miss", "pull"] ["miss", "pull"] (defScope s_has_sign_of) := ⟨rfl, rfl, rfl, by decide +kernel, rfl, by decide +kernel, by decide +kernel⟩
noncomputable abbrev s_is_fair_sum : Stmt := top 40
theorem sc_is_fair_sum : FnScope ["marks", "misses", "pulls", "mark", "miss", "pull"] ["marks", "misses", "pulls"] (defScope s_is_fair_sum) := ⟨rfl, rfl, rfl, by decide +kernel, rfl, by decide +kernel, by decide +kernel⟩
noncomputable abbrev s_bend_least : Stmt := top 43
theorem sc_bend_least : FnScope ["kind", "marks", "bend"] ["kind", "marks", "bend"] (defScope s_bend_least) := ⟨rfl, rfl, rfl, by decide +kernel, rfl, by decide +kernel, by decide +kernel⟩
noncomputable abbrev s_is_bend : Stmt := top 44
theorem sc_is_bend : FnScope ["bend"] ["bend"] (defScope s_is_bend) := ⟨rfl, rfl, rfl, by decide +kernel, rfl, by decide +kernel, by decide +kernel⟩
noncomputable abbrev s_through_all : Stmt := top 45
theorem sc_through_all : FnScope ["marks", "bend", "numbers", "behind"] ["marks", "bend"] (defScope s_through_all) := ⟨rfl, rfl, rfl, by decide +kernel, rfl, by decide +kernel, by decide +kernel⟩
noncomputable abbrev s_bend_square : Stmt := top 46
theorem sc_bend_square : FnScope ["marks", "bend", "weights", "weighed", "moments", "table", "numbers"] ["marks", "bend"] (defScope s_bend_square) := ⟨rfl, rfl, rfl, by decide +kernel, rfl, by decide +kernel, by decide +kernel⟩
noncomputable abbrev s_bend_far : Stmt := top 47
noncomputable abbrev s_spread_spots : Stmt := top 48
noncomputable abbrev s_even_shares : Stmt := top 49
noncomputable abbrev s_with_sign_of : Stmt := top 50
noncomputable abbrev s_moved_by : Stmt := top 51
noncomputable abbrev s_pulls_at : Stmt := top 52
noncomputable abbrev s_exchanged : Stmt := top 53
noncomputable abbrev s_bend_shown : Stmt := top 54
theorem sc_bend_shown : FnScope ["kind", "marks", "numbers", "pulls", "fair"] ["kind", "marks", "numbers", "pulls"] (defScope s_bend_shown) := ⟨rfl, rfl, rfl, by decide +kernel, rfl, by decide +kernel, by decide +kernel⟩
noncomputable abbrev s_law_cell_at : Stmt := top 56
theorem sc_law_cell_at : FnScope ["script", "k"] ["script", "k"] (defScope s_law_cell_at) := ⟨rfl, rfl, rfl, by decide +kernel, rfl, by decide +kernel, by decide +kernel⟩
noncomputable abbrev s_law_low : Stmt := top 57
theorem sc_law_low : FnScope ["top", "bottom", "one", "other"] ["top", "bottom"] (defScope s_law_low) := ⟨rfl, rfl, rfl, by decide +kernel, rfl, by decide +kernel, by decide +kernel⟩
noncomputable abbrev s_law_sum : Stmt := top 58
theorem sc_law_sum : FnScope ["one", "other"] ["one", "other"] (defScope s_law_sum) := ⟨rfl, rfl, rfl, by decide +kernel, rfl, by decide +kernel, by decide +kernel⟩
noncomputable abbrev s_law_times : Stmt := top 59
theorem sc_law_times : FnScope ["one", "other"] ["one", "other"] (defScope s_law_times) := ⟨rfl, rfl, rfl, by decide +kernel, rfl, by decide +kernel, by decide +kernel⟩
noncomputable abbrev s_law_height : Stmt := top 60
theorem sc_law_height : FnScope ["numbers", "x", "found", "number"] ["numbers", "x"] (defScope s_law_height) := ⟨rfl, rfl, rfl, by decide +kernel, rfl, by decide +kernel, by decide +kernel⟩
noncomputable abbrev s_law_marks : Stmt := top 61
theorem sc_law_marks : FnScope ["script", "shape", "far", "place", "tall", "heavy", "found", "most", "cell", "height"] ["script"] (defScope s_law_marks) := ⟨rfl, rfl, rfl, by decide +kernel, rfl, by decide +kernel, by decide +kernel⟩
noncomputable abbrev s_law_is_fractions : Stmt := top 62
theorem sc_law_is_fractions : FnScope ["found", "many", "x"] ["found", "many"] (defScope s_law_is_fractions) := ⟨rfl, rfl, rfl, by decide +kernel, rfl, by decide +kernel, by decide +kernel⟩
noncomputable abbrev s_law_even : Stmt := top 63
theorem sc_law_even : FnScope ["marks", "pulls", "bend", "times", "comes", "k", "part", "j"] ["marks", "pulls", "bend"] (defScope s_law_even) := ⟨rfl, rfl, rfl, by decide +kernel, rfl, by decide +kernel, by decide +kernel⟩
noncomputable abbrev s_law : Stmt := top 64
theorem sc_law : FnScope ["script", "bend", "some", "handed", "found", "numbers", "pulls", "k", "height", "miss", "good", "kept"] ["script"] (defScope s_law) := ⟨rfl, rfl, rfl, by decide +kernel, rfl, by decide +kernel, by decide +kernel⟩
structure Adr where
  a_common_divisor : Addr
  d_common_divisor : FuncData
  a_fraction : Addr
  d_fraction : FuncData
  a_plus : Addr
  d_plus : FuncData
  a_minus : Addr
  d_minus : FuncData
  a_product : Addr
  d_product : FuncData
  a_quotient : Addr
  d_quotient : FuncData
  a_is_less : Addr
  d_is_less : FuncData
  a_size_of : Addr
  d_size_of : FuncData
  a_total_of : Addr
  d_total_of : FuncData
  a_greatest_of : Addr
  d_greatest_of : FuncData
  a_solved : Addr
  d_solved : FuncData
  a_cleared : Addr
  d_cleared : FuncData
  a_leading_spot : Addr
  d_leading_spot : FuncData
  a_without : Addr
  d_without : FuncData
  a_height_at : Addr
  d_height_at : FuncData
  a_row_of : Addr
  d_row_of : FuncData
  a_powers_of : Addr
  d_powers_of : FuncData
  a_bent_through : Addr
  d_bent_through : FuncData
  a_moments_of : Addr
  d_moments_of : FuncData
  a_is_even : Addr
  d_is_even : FuncData
  a_misses_of : Addr
  d_misses_of : FuncData
  a_check_kind : Addr
  d_check_kind : FuncData
  a_weighed_misses : Addr
  d_weighed_misses : FuncData
  a_is_fair : Addr
  d_is_fair : FuncData
  a_is_fair_far : Addr
  d_is_fair_far : FuncData
  a_has_sign_of : Addr
  d_has_sign_of : FuncData
  a_is_fair_sum : Addr
  d_is_fair_sum : FuncData
  a_bend_least : Addr
  d_bend_least : FuncData
  a_is_bend : Addr
  d_is_bend : FuncData
  a_through_all : Addr
  d_through_all : FuncData
  a_bend_square : Addr
  d_bend_square : FuncData
  a_bend_far : Addr
  d_bend_far : FuncData
  a_spread_spots : Addr
  d_spread_spots : FuncData
  a_even_shares : Addr
  d_even_shares : FuncData
  a_with_sign_of : Addr
  d_with_sign_of : FuncData
  a_moved_by : Addr
  d_moved_by : FuncData
  a_pulls_at : Addr
  d_pulls_at : FuncData
  a_exchanged : Addr
  d_exchanged : FuncData
  a_bend_shown : Addr
  d_bend_shown : FuncData
  a_law_cell_at : Addr
  d_law_cell_at : FuncData
  a_law_low : Addr
  d_law_low : FuncData
  a_law_sum : Addr
  d_law_sum : FuncData
  a_law_times : Addr
  d_law_times : FuncData
  a_law_height : Addr
  d_law_height : FuncData
  a_law_marks : Addr
  d_law_marks : FuncData
  a_law_is_fractions : Addr
  d_law_is_fractions : FuncData
  a_law_even : Addr
  d_law_even : FuncData
  a_law : Addr
  d_law : FuncData
  x_NoNumber : Addr
  x_NoKind : Addr
  x_NoBend : Addr
  x_NoAnswer : Addr
  g_KINDS : Addr
  g_NOUGHT : Addr
structure Txt (K : PySem.W.Frag) (mg : Str → Option Value) (A : Adr) : Prop where
  F_common_divisor : Fun K "common_divisor" "common_divisor" s_common_divisor A.a_common_divisor A.d_common_divisor
  m_common_divisor : mg "common_divisor" = some (.ref A.a_common_divisor)
  b_common_divisor : Binds K A.d_common_divisor ["one", "other"] []
  F_fraction : Fun K "fraction" "fraction" s_fraction A.a_fraction A.d_fraction
  m_fraction : mg "fraction" = some (.ref A.a_fraction)
  b_fraction : Binds K A.d_fraction ["top", "bottom"] []
  F_plus : Fun K "plus" "plus" s_plus A.a_plus A.d_plus
  m_plus : mg "plus" = some (.ref A.a_plus)
  b_plus : Binds K A.d_plus ["one", "other"] []
  F_minus : Fun K "minus" "minus" s_minus A.a_minus A.d_minus
  m_minus : mg "minus" = some (.ref A.a_minus)
  b_minus : Binds K A.d_minus ["one", "other"] []
  F_product : Fun K "product" "product" s_product A.a_product A.d_product
  m_product : mg "product" = some (.ref A.a_product)
  b_product : Binds K A.d_product ["one", "other"] []
  F_quotient : Fun K "quotient" "quotient" s_quotient A.a_quotient A.d_quotient
  m_quotient : mg "quotient" = some (.ref A.a_quotient)
  b_quotient : Binds K A.d_quotient ["one", "other"] []
  F_is_less : Fun K "is_less" "is_less" s_is_less A.a_is_less A.d_is_less
  m_is_less : mg "is_less" = some (.ref A.a_is_less)
  b_is_less : Binds K A.d_is_less ["one", "other"] []
  F_size_of : Fun K "size_of" "size_of" s_size_of A.a_size_of A.d_size_of
  m_size_of : mg "size_of" = some (.ref A.a_size_of)
  b_size_of : Binds K A.d_size_of ["one"] []
  F_total_of : Fun K "total_of" "total_of" s_total_of A.a_total_of A.d_total_of
  m_total_of : mg "total_of" = some (.ref A.a_total_of)
  b_total_of : Binds K A.d_total_of ["some"] []
  F_greatest_of : Fun K "greatest_of" "greatest_of" s_greatest_of A.a_greatest_of A.d_greatest_of
  m_greatest_of : mg "greatest_of" = some (.ref A.a_greatest_of)
  b_greatest_of : Binds K A.d_greatest_of ["some"] []
  F_solved : Fun K "solved" "solved" s_solved A.a_solved A.d_solved
  m_solved : mg "solved" = some (.ref A.a_solved)
  b_solved : Binds K A.d_solved ["table", "right"] []
  F_cleared : Fun K "cleared" "cleared" s_cleared A.a_cleared A.d_cleared
  m_cleared : mg "cleared" = some (.ref A.a_cleared)
  b_cleared : Binds K A.d_cleared ["rows", "column"] []
  F_leading_spot : Fun K "leading_spot" "leading_spot" s_leading_spot A.a_leading_spot A.d_leading_spot
  m_leading_spot : mg "leading_spot" = some (.ref A.a_leading_spot)
  b_leading_spot : Binds K A.d_leading_spot ["rows", "column"] []
  F_without : Fun K "without" "without" s_without A.a_without A.d_without
  m_without : mg "without" = some (.ref A.a_without)
  b_without : Binds K A.d_without ["row", "leader", "column"] []
  F_height_at : Fun K "height_at" "height_at" s_height_at A.a_height_at A.d_height_at
  m_height_at : mg "height_at" = some (.ref A.a_height_at)
  b_height_at : Binds K A.d_height_at ["numbers", "x"] []
  F_row_of : Fun K "row_of" "row_of" s_row_of A.a_row_of A.d_row_of
  m_row_of : mg "row_of" = some (.ref A.a_row_of)
  b_row_of : Binds K A.d_row_of ["numbers", "marks"] []
  F_powers_of : Fun K "powers_of" "powers_of" s_powers_of A.a_powers_of A.d_powers_of
  m_powers_of : mg "powers_of" = some (.ref A.a_powers_of)
  b_powers_of : Binds K A.d_powers_of ["x", "count"] []
  F_bent_through : Fun K "bent_through" "bent_through" s_bent_through A.a_bent_through A.d_bent_through
  m_bent_through : mg "bent_through" = some (.ref A.a_bent_through)
  b_bent_through : Binds K A.d_bent_through ["marks"] []
  F_moments_of : Fun K "moments_of" "moments_of" s_moments_of A.a_moments_of A.d_moments_of
  m_moments_of : mg "moments_of" = some (.ref A.a_moments_of)
  b_moments_of : Binds K A.d_moments_of ["marks", "terms", "count"] []
  F_is_even : Fun K "is_even" "is_even" s_is_even A.a_is_even A.d_is_even
  m_is_even : mg "is_even" = some (.ref A.a_is_even)
  b_is_even : Binds K A.d_is_even ["marks", "pulls", "bend"] []
  F_misses_of : Fun K "misses_of" "misses_of" s_misses_of A.a_misses_of A.d_misses_of
  m_misses_of : mg "misses_of" = some (.ref A.a_misses_of)
  b_misses_of : Binds K A.d_misses_of ["marks", "row"] []
  F_check_kind : Fun K "check_kind" "check_kind" s_check_kind A.a_check_kind A.d_check_kind
  m_check_kind : mg "check_kind" = some (.ref A.a_check_kind)
  b_check_kind : Binds K A.d_check_kind ["kind"] []
  F_weighed_misses : Fun K "weighed_misses" "weighed_misses" s_weighed_misses A.a_weighed_misses A.d_weighed_misses
  m_weighed_misses : mg "weighed_misses" = some (.ref A.a_weighed_misses)
  b_weighed_misses : Binds K A.d_weighed_misses ["marks", "row"] []
  F_is_fair : Fun K "is_fair" "is_fair" s_is_fair A.a_is_fair A.d_is_fair
  m_is_fair : mg "is_fair" = some (.ref A.a_is_fair)
  b_is_fair : Binds K A.d_is_fair ["kind", "marks", "row", "pulls"] []
  F_is_fair_far : Fun K "is_fair_far" "is_fair_far" s_is_fair_far A.a_is_fair_far A.d_is_fair_far
  m_is_fair_far : mg "is_fair_far" = some (.ref A.a_is_fair_far)
  b_is_fair_far : Binds K A.d_is_fair_far ["misses", "pulls"] []
  F_has_sign_of : Fun K "has_sign_of" "has_sign_of" s_has_sign_of A.a_has_sign_of A.d_has_sign_of
  m_has_sign_of : mg "has_sign_of" = some (.ref A.a_has_sign_of)
  b_has_sign_of : Binds K A.d_has_sign_of ["miss", "pull"] []
  F_is_fair_sum : Fun K "is_fair_sum" "is_fair_sum" s_is_fair_sum A.a_is_fair_sum A.d_is_fair_sum
  m_is_fair_sum : mg "is_fair_sum" = some (.ref A.a_is_fair_sum)
  b_is_fair_sum : Binds K A.d_is_fair_sum ["marks", "misses", "pulls"] []
  F_bend_least : Fun K "bend_least" "bend_least" s_bend_least A.a_bend_least A.d_bend_least
  m_bend_least : mg "bend_least" = some (.ref A.a_bend_least)
  b_bend_least : Binds K A.d_bend_least ["kind", "marks", "bend"] []
  F_is_bend : Fun K "is_bend" "is_bend" s_is_bend A.a_is_bend A.d_is_bend
  m_is_bend : mg "is_bend" = some (.ref A.a_is_bend)
  b_is_bend : Binds K A.d_is_bend ["bend"] []
  F_through_all : Fun K "through_all" "through_all" s_through_all A.a_through_all A.d_through_all
  m_through_all : mg "through_all" = some (.ref A.a_through_all)
  b_through_all : Binds K A.d_through_all ["marks", "bend"] []
  F_bend_square : Fun K "bend_square" "bend_square" s_bend_square A.a_bend_square A.d_bend_square
  m_bend_square : mg "bend_square" = some (.ref A.a_bend_square)
  b_bend_square : Binds K A.d_bend_square ["marks", "bend"] []
  F_bend_far : Fun K "bend_far" "bend_far" s_bend_far A.a_bend_far A.d_bend_far
  m_bend_far : mg "bend_far" = some (.ref A.a_bend_far)
  b_bend_far : Binds K A.d_bend_far ["marks", "bend"] []
  F_spread_spots : Fun K "spread_spots" "spread_spots" s_spread_spots A.a_spread_spots A.d_spread_spots
  m_spread_spots : mg "spread_spots" = some (.ref A.a_spread_spots)
  b_spread_spots : Binds K A.d_spread_spots ["count", "wanted"] []
  F_even_shares : Fun K "even_shares" "even_shares" s_even_shares A.a_even_shares A.d_even_shares
  m_even_shares : mg "even_shares" = some (.ref A.a_even_shares)
  b_even_shares : Binds K A.d_even_shares ["chosen"] []
  F_with_sign_of : Fun K "with_sign_of" "with_sign_of" s_with_sign_of A.a_with_sign_of A.d_with_sign_of
  m_with_sign_of : mg "with_sign_of" = some (.ref A.a_with_sign_of)
  b_with_sign_of : Binds K A.d_with_sign_of ["one", "other"] []
  F_moved_by : Fun K "moved_by" "moved_by" s_moved_by A.a_moved_by A.d_moved_by
  m_moved_by : mg "moved_by" = some (.ref A.a_moved_by)
  b_moved_by : Binds K A.d_moved_by ["chosen", "shares", "level"] []
  F_pulls_at : Fun K "pulls_at" "pulls_at" s_pulls_at A.a_pulls_at A.d_pulls_at
  m_pulls_at : mg "pulls_at" = some (.ref A.a_pulls_at)
  b_pulls_at : Binds K A.d_pulls_at ["spots", "shares", "level", "count"] []
  F_exchanged : Fun K "exchanged" "exchanged" s_exchanged A.a_exchanged A.d_exchanged
  m_exchanged : mg "exchanged" = some (.ref A.a_exchanged)
  b_exchanged : Binds K A.d_exchanged ["spots", "misses", "spot"] []
  F_bend_shown : Fun K "bend_shown" "bend_shown" s_bend_shown A.a_bend_shown A.d_bend_shown
  m_bend_shown : mg "bend_shown" = some (.ref A.a_bend_shown)
  b_bend_shown : Binds K A.d_bend_shown ["kind", "marks", "numbers", "pulls"] []
  F_law_cell_at : Fun K "_law_cell_at" "_law_cell_at" s_law_cell_at A.a_law_cell_at A.d_law_cell_at
  m_law_cell_at : mg "_law_cell_at" = some (.ref A.a_law_cell_at)
  b_law_cell_at : Binds K A.d_law_cell_at ["script", "k"] []
  F_law_low : Fun K "_law_low" "_law_low" s_law_low A.a_law_low A.d_law_low
  m_law_low : mg "_law_low" = some (.ref A.a_law_low)
  b_law_low : Binds K A.d_law_low ["top", "bottom"] []
  F_law_sum : Fun K "_law_sum" "_law_sum" s_law_sum A.a_law_sum A.d_law_sum
  m_law_sum : mg "_law_sum" = some (.ref A.a_law_sum)
  b_law_sum : Binds K A.d_law_sum ["one", "other"] []
  F_law_times : Fun K "_law_times" "_law_times" s_law_times A.a_law_times A.d_law_times
  m_law_times : mg "_law_times" = some (.ref A.a_law_times)
  b_law_times : Binds K A.d_law_times ["one", "other"] []
  F_law_height : Fun K "_law_height" "_law_height" s_law_height A.a_law_height A.d_law_height
  m_law_height : mg "_law_height" = some (.ref A.a_law_height)
  b_law_height : Binds K A.d_law_height ["numbers", "x"] []
  F_law_marks : Fun K "_law_marks" "_law_marks" s_law_marks A.a_law_marks A.d_law_marks
  m_law_marks : mg "_law_marks" = some (.ref A.a_law_marks)
  b_law_marks : Binds K A.d_law_marks ["script"] []
  F_law_is_fractions : Fun K "_law_is_fractions" "_law_is_fractions" s_law_is_fractions A.a_law_is_fractions A.d_law_is_fractions
  m_law_is_fractions : mg "_law_is_fractions" = some (.ref A.a_law_is_fractions)
  b_law_is_fractions : Binds K A.d_law_is_fractions ["found", "many"] []
  F_law_even : Fun K "_law_even" "_law_even" s_law_even A.a_law_even A.d_law_even
  m_law_even : mg "_law_even" = some (.ref A.a_law_even)
  b_law_even : Binds K A.d_law_even ["marks", "pulls", "bend"] []
  F_law : Fun K "law" "law" s_law A.a_law A.d_law
  m_law : mg "law" = some (.ref A.a_law)
  b_law : Binds K A.d_law ["script"] []
  x_NoNumber : ExcCl K mg "NoNumber" A.x_NoNumber
  x_NoKind : ExcCl K mg "NoKind" A.x_NoKind
  x_NoBend : ExcCl K mg "NoBend" A.x_NoBend
  x_NoAnswer : ExcCl K mg "NoAnswer" A.x_NoAnswer
  n_abs : mg "abs" = none
  n_all : mg "all" = none
  n_bool : mg "bool" = none
  n_height : mg "height" = none
  n_int : mg "int" = none
  n_isinstance : mg "isinstance" = none
  n_led : mg "led" = none
  n_len : mg "len" = none
  n_list : mg "list" = none
  n_mark : mg "mark" = none
  n_max : mg "max" = none
  n_min : mg "min" = none
  n_miss : mg "miss" = none
  n_moment : mg "moment" = none
  n_one : mg "one" = none
  n_power : mg "power" = none
  n_pull : mg "pull" = none
  n_range : mg "range" = none
  n_reversed : mg "reversed" = none
  n_row : mg "row" = none
  n_share : mg "share" = none
  n_spot : mg "spot" = none
  n_str : mg "str" = none
  n_term : mg "term" = none
  n_tuple : mg "tuple" = none
  n_value : mg "value" = none
  n_weight : mg "weight" = none
  n_zip : mg "zip" = none
  c_KINDS : mg "KINDS" = some (.ref A.g_KINDS)
  k_KINDS : ∀ H : Hp, DV K H (.ref A.g_KINDS) (.tuple [(.str "far"), (.str "sum"), (.str "square")])
  c_MOST_BEND : ∃ t, mg "MOST_BEND" = some (.int 3 t)
  c_MOST_NUMBERS : ∃ t, mg "MOST_NUMBERS" = some (.int 4 t)
  c_NOUGHT : mg "NOUGHT" = some (.ref A.g_NOUGHT)
  k_NOUGHT : ∀ H : Hp, DV K H (.ref A.g_NOUGHT) (.tuple [(.int 0), (.int 1)])
noncomputable abbrev bt_abs := PyProof.Rows.boot_abs
noncomputable abbrev bt_isinstance := PyProof.Rows.boot_isinstance
noncomputable abbrev bt_int := PyProof.Rows.boot_int
noncomputable abbrev bt_bool := PyProof.Rows.boot_bool
noncomputable abbrev bt_tuple := PyProof.Rows.boot_tuple
noncomputable abbrev bt_list := PyProof.Rows.boot_list
noncomputable abbrev bt_min := PyProof.Rows.boot_min
noncomputable abbrev bt_max := PyProof.Rows.boot_max
local macro_rules | `(tactic| walk_at "d") => `(tactic| (try simp only [startN, slot, put, dVar, dBVar, dLVar, dC, dFz, dAsL, dNil, dCons, dTup, dLst, dOp, oI, oI0, oB0, oEq, oNe, dNeg, dIxK, nth, dMap, dCb, bAbs, bMin, bMax, bLen, bInt, dListOf, dNoP, dPart, dSl, dUnp, dThaw2, dAsB, dAnd, dOr, dNot, dAndV, dNotV, dCall, dCall0, dCallO, dCallO0, dCallB0, dNext, dRet, dRetO, dRetV, dDrop, dIfS, gvName, gvNil, gvCons, gvTup, dAsg, dSetO, dAsgN, noOwn, frzAt, dFrz, dPar, dRaise, dApp, dRng1, dRng2, capD, dYes, dIsi, isD, tyD, dCat, dMVar, dIxL, dZip, dRev, dRep, oNotB, dFrzE, dOV, d2, dRet2, twoS, dMFz, dRetC20, dFzV, dPair, dFrzL, mask, okT, dChain, dZip3, bAll, dNoS, flatS, ownS, anyS, flatD, flatDs, Bool.and_true, Bool.true_and, Bool.and_self, Bool.not_true, Bool.not_false, true_and, and_true, decide_eq_true_eq, Bool.not_eq_true', decide_eq_false_iff_not, if_true, if_false, ite_true, ite_false, Bool.false_eq_true, Bool.true_eq_false, not_true_eq_false, not_false_eq_true, reduceCtorEq, List.length_cons, List.length_nil, List.length_map]))
local macro_rules | `(tactic| walk_at "s") => `(tactic| (walk_at "d"; refine seq_mk ?_; walk_at "d"))
theorem bt_str : bootBuiltins "str" = some (.type "str") := by decide +kernel
noncomputable abbrev fr (q : Rat) : PyData := .tuple [.int q.num, .int (q.den : Int)]
theorem wee_nat {g : Nat} {b : Int} (h : g ≤ b.natAbs) (hb : Wee b) : Wee (g : Int) := by
  unfold Wee at *
  omega
theorem wee_neg {b : Int} (hb : Wee b) : Wee (-b) := by
  unfold Wee at *
  omega
theorem cpow {i j : Int} (h : decide (0 ≤ j ∧ j ≤ 1000000 ∧ i.natAbs < 2 ^ 64) = true) : CPow i j := (of_decide_eq_true h : 0 ≤ j ∧ j ≤ 1000000 ∧ i.natAbs < 2 ^ 64)
theorem wee {i : Int} (h : decide (i.natAbs < 2 ^ 8000) = true) : Wee i := (of_decide_eq_true h : i.natAbs < 2 ^ 8000)
theorem weeLe {i : Int} {n : Nat} (h : i.natAbs ≤ n) (hn : decide (n < 2 ^ 8000) = true) : Wee i := Nat.lt_of_le_of_lt h (of_decide_eq_true hn)
theorem cdiv {i j : Int} (h : decide (0 < j ∧ j.natAbs < 2 ^ 8000) = true) : CDivB i j := (of_decide_eq_true h : 0 < j ∧ j.natAbs < 2 ^ 8000)
structure Ok (q : Rat) : Prop where
  n : Wee q.num
  d : Wee (q.den : Int)
theorem wee_natle {g b : Nat} (h : g ≤ b) (hb : Wee (b : Int)) : Wee (g : Int) := by
  unfold Wee at *
  omega
theorem okS {q : Rat} {N : Nat} (h : Fm.Sz N q) (hN : decide (N < 2 ^ 8000) = true) : Ok q := ⟨weeLe h.n hN, weeLe (n := N) (by have := h.d; omega) hN⟩
theorem fr_flat (q : Rat) : flatD (fr q) = true := rfl
theorem frs_flat : ∀ qs : List Rat, flatDs (qs.map fr) = true
  | [] => rfl
  | q :: qs => by
    have := frs_flat qs
    simp only [List.map_cons, flatDs, fr_flat, this, Bool.and_self]
section
variable {P : Program} {w : World} {K : PySem.W.Frag} {mg : Str → Option Value} {base : Heap} {A : Adr}
noncomputable def wGcd : DW := fun ds Q _ => ∃ a b : Int, ds = [.int a, .int b] ∧ 0 ≤ a ∧ 0 ≤ b ∧ Q (.dat (.int ((Int.gcd a b : Nat) : Int)))
theorem ok_common_divisor (T : Txt K mg A) : FnOk P w K mg base (CXE P w) 1 A.a_common_divisor A.d_common_divisor ["one", "other"] (spW K wGcd) := by
  refine okW T.F_common_divisor sc_common_divisor (fun ds Q E h => ?_) (fun cdv Ar outer s H E hr => ?_)
  · obtain ⟨a, b, rfl, _⟩ := h; rfl
  refine ⟨_, (pss_cons (ps_while PassesOwn.leaving (pt_cmpR op_ne (pv 1) pe_int (nomark _)) (pss_cons (ps_set (i := 2) sc_common_divisor.nd rfl (Or.inl rfl) (pe_op op_mod (pv 0) (pv 1)))
      (pss_cons (ps_set (i := 0) sc_common_divisor.nd rfl (Or.inl rfl) (pv 1))
      (pss_one (ps_set (i := 1) sc_common_divisor.nd rfl (Or.inl rfl) (pv 2))))))
      (pss_one (ps_ret (pv 0)))), _, (sv_seq (sv_while (tv_test (bv_ev (ev_op ro_ne (bv_var 1) (bv_ev ev_int)))) (sv_seq (sv_asg (ev_op ro_i (bv_var 0) (bv_var 1)) (gv_name 2))
      (sv_seq (sv_asg (ev_var 1) (gv_name 0))
      (sv_asg (ev_var 2) (gv_name 1)))))
      (sv_retV 0)), ?_⟩
  rintro ds Q X ⟨a, b, rfl, ha, hb, k⟩
  walk_at "s"
  refine ⟨fun m δ => ∃ x y r, δ = [some (.dat (.int x)), some (.dat (.int y)), r] ∧ m = y.toNat ∧ 0 ≤ x ∧ 0 ≤ y ∧ Int.gcd x y = Int.gcd a b, ⟨_, a, b, none, rfl, rfl, ha, hb, rfl⟩, ?_⟩
  rintro m δ ⟨x, y, r, rfl, rfl, hx, hy, hg⟩
  walk_at "d"
  refine ite2 (fun c => ?_) (fun c => ?_)
  · have hy0 : y ≠ 0 := c
    have hp : 0 < y := by omega
    walk_at "s"
    refine ⟨hp, ?_⟩
    walk_at "s"
    walk_at "d"
    refine ⟨_, ?_, y, x % y, _, rfl, rfl, hy, Int.emod_nonneg _ hy0, ?_⟩
    · have := Int.emod_lt_of_pos x hp
      have := Int.emod_nonneg x hy0
      omega
    · rw [Fm.gcd_step x y hp, hg]
  · have hy0 : y = 0 := Decidable.not_not.mp c
    subst hy0
    rw [← hg, Fm.gcd_zero hx] at k
    exact k
noncomputable def wFraction (C : Addr) : DW := fun ds Q X => ∃ t b : Int, ds = [.int t, .int b] ∧ Wee b ∧ (b = 0 → X C) ∧ (b ≠ 0 → Q (.dat (fr (Rat.divInt t b))))
theorem ok_fraction (T : Txt K mg A) : FnOk P w K mg base (CXE P w) 2 A.a_fraction A.d_fraction ["top", "bottom"] (spW K (wFraction A.x_NoNumber)) := by
  have G_common_divisor := ok_common_divisor (P := P) (w := w) (base := base) T
  refine okW T.F_fraction sc_fraction (fun ds Q E h => ?_) (fun cdv Ar outer s H E hr => ?_)
  · obtain ⟨a, b, rfl, _⟩ := h; rfl
  refine ⟨_, (pss_cons (ps_if (pt_cmpR op_eq (pv 1) pe_int (nomark _)) (pss_one (ps_raise T.x_NoNumber hr.hd pass_own rfl (pa_cons pe_str pa_nil))) pss_nil)
      (pss_cons (ps_set (i := 2) sc_fraction.nd rfl (Or.inl rfl) (pe_call G_common_divisor (hr.mono (by decide)) rfl T.m_common_divisor T.F_common_divisor.kp T.b_common_divisor .nil passE0 (pa_cons (pe_callB call_abs rfl T.n_abs bt_abs (pa_cons (pv 0) pa_nil)) (pa_cons (pe_callB call_abs rfl T.n_abs bt_abs (pa_cons (pv 1) pa_nil)) pa_nil))))
      (pss_cons (ps_if (pt_cmpR op_lt (pv 1) pe_int (nomark _)) (pss_one (ps_set (i := 2) sc_fraction.nd rfl (Or.inl rfl) (pe_un un_neg (pv 2)))) pss_nil)
      (pss_one (ps_ret (pe_tup (pa_cons (pe_op op_fdivW (pv 0) (pv 2)) (pa_cons (pe_op op_fdivW (pv 1) (pv 2)) pa_nil)))))))), _, (sv_seq (sv_if (tv_test (bv_ev (ev_op ro_eq (bv_var 1) (bv_ev ev_int)))) (sv_raise (ae_cons ev_str ae_nil) (by decide)) sv_next)
      (sv_seq (sv_asg (ev_call0 (av_cons (bv_ev (ev_cb rb_abs (av_cons (bv_var 0) av_nil))) (av_cons (bv_ev (ev_cb rb_abs (av_cons (bv_var 1) av_nil))) av_nil))) (gv_name 2))
      (sv_cut (sv_if (tv_test (bv_ev (ev_op ro_b0 (bv_var 1) (bv_ev ev_int)))) (sv_asg (ev_neg (bv_var 2)) (gv_name 2)) sv_next)
      (sv_ret (bv_ev (ev_tup (ae_cons (ev_op ro_i (bv_var 0) (bv_var 2)) (ae_cons (ev_op ro_i (bv_var 1) (bv_var 2)) ae_nil)) (by decide))))))), ?_⟩
  rintro ds Q X ⟨t, b, rfl, hw, k0, k1⟩
  walk_at "s"
  refine ite2 (fun c => ?_) (fun c => ?_)
  · exact k0 c
  have hb : b ≠ 0 := c
  have kq := k1 hb
  walk_at "s"
  refine ⟨_, _, rfl, by rw [Fm.abs_if]; omega, by rw [Fm.abs_if]; omega, ?_⟩
  have eg : Int.gcd (if t < 0 then -t else t) (if b < 0 then -b else b) = Int.gcd t b := by
    rw [Fm.abs_if, Fm.abs_if]
    simp [Int.gcd]
  rw [eg]
  walk_at "d"
  refine ?_
  have h1 := Fm.gcd_pos_right (a := t) hb
  have h2 := wee_nat (Fm.gcd_le_right (a := t) hb) hw
  refine cut_mk (fun δ => δ = [some (.dat (.int t)), some (.dat (.int b)), some (.dat (.int (if b < 0 then -((Int.gcd t b : Nat) : Int) else ((Int.gcd t b : Nat) : Int))))]) ?_ ?_
  · walk_at "d"
    refine ite2 (fun c2 => ?_) (fun c2 => ?_)
    · rw [if_pos c2]
    · rw [if_neg c2]
  · rintro δ rfl
    walk_at "d"
    have hg : (if b < 0 then -((Int.gcd t b : Nat) : Int) else ((Int.gcd t b : Nat) : Int)) ≠ 0 := by split <;> omega
    have hg2 : Wee (if b < 0 then -((Int.gcd t b : Nat) : Int) else ((Int.gcd t b : Nat) : Int)) := by
      split
      · exact wee_neg h2
      · exact h2
    refine ⟨⟨hg, hg2⟩, ⟨hg, hg2⟩, ?_⟩
    rw [Fm.fr_num hb, Fm.fr_den hb]
    exact kq
end
noncomputable def wTwo (f : Rat → Rat → Rat) : DW := fun ds Q _ => ∃ a b : Rat, ds = [fr a, fr b] ∧ Ok a ∧ Ok b ∧ Q (.dat (fr (f a b)))
section
variable {P : Program} {w : World} {K : PySem.W.Frag} {mg : Str → Option Value} {base : Heap} {A : Adr}
theorem ok_plus (T : Txt K mg A) : FnOk P w K mg base (CXE P w) 2 A.a_plus A.d_plus ["one", "other"] (spW K (wTwo (· + ·))) := by
  have G_common_divisor := ok_common_divisor (P := P) (w := w) (base := base) T
  refine okW T.F_plus sc_plus (fun ds Q E h => ?_) (fun cdv Ar outer s H E hr => ?_)
  · obtain ⟨a, b, rfl, _⟩ := h; rfl
  refine ⟨_, (pss_cons (ps_set (i := 2) sc_plus.nd rfl (Or.inl rfl) (pe_call G_common_divisor (hr.mono (by decide)) rfl T.m_common_divisor T.F_common_divisor.kp T.b_common_divisor .nil passE0 (pa_cons (pe_ix (ixtK (K := K) rfl) (pv 0) pe_int (fun _ _ => rfl)) (pa_cons (pe_ix (ixtK (K := K) rfl) (pv 1) pe_int (fun _ _ => rfl)) pa_nil))))
      (pss_cons (ps_set (i := 3) sc_plus.nd rfl (Or.inl rfl) (pe_op op_fdivB (pe_ix (ixtK (K := K) rfl) (pv 0) pe_int (fun _ _ => rfl)) (pv 2)))
      (pss_cons (ps_set (i := 4) sc_plus.nd rfl (Or.inl rfl) (pe_op op_add (pe_op op_mulB (pe_ix (ixtK (K := K) rfl) (pv 0) pe_int (fun _ _ => rfl)) (pe_op op_fdivB (pe_ix (ixtK (K := K) rfl) (pv 1) pe_int (fun _ _ => rfl)) (pv 2))) (pe_op op_mulB (pe_ix (ixtK (K := K) rfl) (pv 1) pe_int (fun _ _ => rfl)) (pv 3))))
      (pss_cons (ps_set (i := 5) sc_plus.nd rfl (Or.inl rfl) (pe_call G_common_divisor (hr.mono (by decide)) rfl T.m_common_divisor T.F_common_divisor.kp T.b_common_divisor .nil passE0 (pa_cons (pv 2) (pa_cons (pe_callB call_abs rfl T.n_abs bt_abs (pa_cons (pv 4) pa_nil)) pa_nil))))
      (pss_one (ps_ret (pe_tup (pa_cons (pe_op op_fdivB (pv 4) (pv 5)) (pa_cons (pe_op op_mulB (pv 3) (pe_op op_fdivB (pe_ix (ixtK (K := K) rfl) (pv 1) pe_int (fun _ _ => rfl)) (pv 5))) pa_nil))))))))), _, (sv_seq (sv_asg (ev_call0 (av_cons (bv_ev (ev_ixk 1 (ev_var 0))) (av_cons (bv_ev (ev_ixk 1 (ev_var 1))) av_nil))) (gv_name 2))
      (sv_seq (sv_asg (ev_op ro_i (bv_ev (ev_ixk 1 (ev_var 0))) (bv_var 2)) (gv_name 3))
      (sv_seq (sv_asg (ev_op ro_i0 (bv_ev (ev_op ro_i (bv_ev (ev_ixk 0 (ev_var 0))) (bv_ev (ev_op ro_i (bv_ev (ev_ixk 1 (ev_var 1))) (bv_var 2))))) (bv_ev (ev_op ro_i (bv_ev (ev_ixk 0 (ev_var 1))) (bv_var 3)))) (gv_name 4))
      (sv_seq (sv_asg (ev_call0 (av_cons (bv_var 2) (av_cons (bv_ev (ev_cb rb_abs (av_cons (bv_var 4) av_nil))) av_nil))) (gv_name 5))
      (sv_ret (bv_ev (ev_tup (ae_cons (ev_op ro_i (bv_var 4) (bv_var 5)) (ae_cons (ev_op ro_i (bv_var 3) (bv_ev (ev_op ro_i (bv_ev (ev_ixk 1 (ev_var 1))) (bv_var 5)))) ae_nil)) (by decide)))))))), ?_⟩
  rintro ds Q X ⟨a, b, rfl, oa, ob, k⟩
  have s0 : 0 < a.den.gcd b.den := Nat.gcd_pos_of_pos_left _ (Nat.pos_of_ne_zero a.den_nz)
  have sw : Wee ((a.den.gcd b.den : Nat) : Int) := wee_natle (Nat.le_of_dvd (Nat.pos_of_ne_zero a.den_nz) (Nat.gcd_dvd_left _ _)) oa.d
  walk_at "s"
  refine ⟨_, _, rfl, by omega, by omega, ?_⟩
  rw [Int.gcd_natCast_natCast]
  generalize hs : a.den.gcd b.den = sh at s0 sw ⊢
  walk_at "d"
  refine ?_
  walk_at "s"
  refine ⟨⟨by omega, sw⟩, ?_⟩
  rw [← Int.natCast_ediv]
  walk_at "s"
  refine ⟨⟨by omega, sw⟩, ?_⟩
  rw [← Int.natCast_ediv]
  refine ⟨mulOk oa.n (wee_natle (Nat.div_le_self _ _) ob.d), mulOk ob.n (wee_natle (Nat.div_le_self _ _) oa.d), ?_⟩
  generalize ht : a.num * ((b.den / sh : Nat) : Int) + b.num * ((a.den / sh : Nat) : Int) = tp
  walk_at "s"
  refine ⟨_, _, rfl, by omega, by rw [Fm.abs_if]; omega, ?_⟩
  rw [Fm.abs_if, Int.gcd_natCast_natCast]
  generalize hg : sh.gcd tp.natAbs = g
  have g0 : 0 < g := by rw [← hg]; exact Nat.gcd_pos_of_pos_left _ s0
  have gw : Wee (g : Int) := wee_natle (by rw [← hg]; exact Nat.le_of_dvd s0 (Nat.gcd_dvd_left _ _)) sw
  walk_at "d"
  refine ?_
  obtain ⟨e1, e2⟩ := Fm.add_parts a b sh hs.symm tp ht.symm g hg.symm
  walk_at "d"
  refine ⟨⟨by omega, gw⟩, ⟨by omega, gw⟩, mulOk (wee_natle (Nat.div_le_self _ _) oa.d) (by rw [← Int.natCast_ediv]; exact wee_natle (Nat.div_le_self _ _) ob.d), ?_⟩
  rw [← Int.natCast_ediv, ← Int.natCast_mul, ← e1, ← e2]
  exact k
theorem ok_minus (T : Txt K mg A) : FnOk P w K mg base (CXE P w) 3 A.a_minus A.d_minus ["one", "other"] (spW K (wTwo (· - ·))) := by
  have G_plus := ok_plus (P := P) (w := w) (base := base) T
  refine okW T.F_minus sc_minus (fun ds Q E h => ?_) (fun cdv Ar outer s H E hr => ?_)
  · obtain ⟨a, b, rfl, _⟩ := h; rfl
  refine ⟨_, (pss_one (ps_ret (pe_call G_plus (hr.mono (by decide)) rfl T.m_plus T.F_plus.kp T.b_plus .nil passE0 (pa_cons (pv 0) (pa_cons (pe_tup (pa_cons (pe_un un_neg (pe_ix (ixtK (K := K) rfl) (pv 1) pe_int (fun _ _ => rfl))) (pa_cons (pe_ix (ixtK (K := K) rfl) (pv 1) pe_int (fun _ _ => rfl)) pa_nil))) pa_nil))))), _, (sv_ret (bv_ev (ev_call0 (av_cons (bv_var 0) (av_cons (bv_ev (ev_tup (ae_cons (ev_neg (bv_ev (ev_ixk 0 (ev_var 1)))) (ae_cons (ev_ixk 1 (ev_var 1)) ae_nil)) (by decide))) av_nil))))), ?_⟩
  rintro ds Q X ⟨a, b, rfl, oa, ob, k⟩
  walk_at "d"
  refine ⟨a, -b, rfl, oa, ⟨wee_neg ob.n, ob.d⟩, rfl, ?_⟩
  dsimp only
  rw [← Rat.sub_eq_add_neg]
  exact k
theorem ok_product (T : Txt K mg A) : FnOk P w K mg base (CXE P w) 3 A.a_product A.d_product ["one", "other"] (spW K (wTwo (· * ·))) := by
  have G_fraction := ok_fraction (P := P) (w := w) (base := base) T
  refine okW T.F_product sc_product (fun ds Q E h => ?_) (fun cdv Ar outer s H E hr => ?_)
  · obtain ⟨a, b, rfl, _⟩ := h; rfl
  refine ⟨_, (pss_cons (ps_set (i := 2) sc_product.nd rfl (Or.inl rfl) (pe_call G_fraction (hr.mono (by decide)) rfl T.m_fraction T.F_fraction.kp T.b_fraction .nil passE0 (pa_cons (pe_ix (ixtK (K := K) rfl) (pv 0) pe_int (fun _ _ => rfl)) (pa_cons (pe_ix (ixtK (K := K) rfl) (pv 1) pe_int (fun _ _ => rfl)) pa_nil))))
      (pss_cons (ps_set (i := 3) sc_product.nd rfl (Or.inl rfl) (pe_call G_fraction (hr.mono (by decide)) rfl T.m_fraction T.F_fraction.kp T.b_fraction .nil passE0 (pa_cons (pe_ix (ixtK (K := K) rfl) (pv 1) pe_int (fun _ _ => rfl)) (pa_cons (pe_ix (ixtK (K := K) rfl) (pv 0) pe_int (fun _ _ => rfl)) pa_nil))))
      (pss_one (ps_ret (pe_tup (pa_cons (pe_op op_mulB (pe_ix (ixtK (K := K) rfl) (pv 2) pe_int (fun _ _ => rfl)) (pe_ix (ixtK (K := K) rfl) (pv 3) pe_int (fun _ _ => rfl))) (pa_cons (pe_op op_mulB (pe_ix (ixtK (K := K) rfl) (pv 2) pe_int (fun _ _ => rfl)) (pe_ix (ixtK (K := K) rfl) (pv 3) pe_int (fun _ _ => rfl))) pa_nil))))))), _, (sv_seq (sv_asg (ev_call0 (av_cons (bv_ev (ev_ixk 0 (ev_var 0))) (av_cons (bv_ev (ev_ixk 1 (ev_var 1))) av_nil))) (gv_name 2))
      (sv_seq (sv_asg (ev_call0 (av_cons (bv_ev (ev_ixk 0 (ev_var 1))) (av_cons (bv_ev (ev_ixk 1 (ev_var 0))) av_nil))) (gv_name 3))
      (sv_ret (bv_ev (ev_tup (ae_cons (ev_op ro_i (bv_ev (ev_ixk 0 (ev_var 2))) (bv_ev (ev_ixk 0 (ev_var 3)))) (ae_cons (ev_op ro_i (bv_ev (ev_ixk 1 (ev_var 2))) (bv_ev (ev_ixk 1 (ev_var 3)))) ae_nil)) (by decide)))))), ?_⟩
  rintro ds Q X ⟨a, b, rfl, oa, ob, k⟩
  have z1 : ((b.den : Nat) : Int) ≠ 0 := by have := b.den_nz; omega
  have z2 : ((a.den : Nat) : Int) ≠ 0 := by have := a.den_nz; omega
  obtain ⟨e1, e2⟩ := Fm.mul_parts a b
  walk_at "s"
  refine ⟨_, _, rfl, ob.d, fun z => absurd z z1, fun _ => ?_⟩
  walk_at "s"
  refine ⟨_, _, rfl, oa.d, fun z => absurd z z2, fun _ => ?_⟩
  have n1 := Fm.num_le a.num z1
  have n2 := Fm.den_le a.num z1
  have n3 := Fm.num_le b.num z2
  have n4 := Fm.den_le b.num z2
  have w1 := oa.n; have w2 := oa.d; have w3 := ob.n; have w4 := ob.d
  walk_at "d"
  refine ⟨mulOk (by unfold Wee at *; omega) (by unfold Wee at *; omega), mulOk (by unfold Wee at *; omega) (by unfold Wee at *; omega), ?_⟩
  rw [← Int.natCast_mul, ← e1, ← e2]
  exact k
noncomputable def wLess : DW := fun ds Q _ => ∃ a b : Rat, ds = [fr a, fr b] ∧ Ok a ∧ Ok b ∧ Q (.dat (.bool (decide (a < b))))
theorem ok_is_less (T : Txt K mg A) : FnOk P w K mg base (CXE P w) 1 A.a_is_less A.d_is_less ["one", "other"] (spW K wLess) := by
  refine okW T.F_is_less sc_is_less (fun ds Q E h => ?_) (fun cdv Ar outer s H E hr => ?_)
  · obtain ⟨a, b, rfl, _⟩ := h; rfl
  refine ⟨_, (pss_one (ps_ret (pe_cmpR op_lt (pe_op op_mulB (pe_ix (ixtK (K := K) rfl) (pv 0) pe_int (fun _ _ => rfl)) (pe_ix (ixtK (K := K) rfl) (pv 1) pe_int (fun _ _ => rfl))) (pe_op op_mulB (pe_ix (ixtK (K := K) rfl) (pv 1) pe_int (fun _ _ => rfl)) (pe_ix (ixtK (K := K) rfl) (pv 0) pe_int (fun _ _ => rfl))) (nomark _)))), _, (sv_ret (bv_ev (ev_op ro_b0 (bv_ev (ev_op ro_i (bv_ev (ev_ixk 0 (ev_var 0))) (bv_ev (ev_ixk 1 (ev_var 1))))) (bv_ev (ev_op ro_i (bv_ev (ev_ixk 0 (ev_var 1))) (bv_ev (ev_ixk 1 (ev_var 0)))))))), ?_⟩
  rintro ds Q X ⟨a, b, rfl, oa, ob, k⟩
  walk_at "d"
  refine ⟨mulOk oa.n ob.d, mulOk ob.n oa.d, ?_⟩
  have e : decide (a.num * (b.den : Int) < b.num * (a.den : Int)) = decide (a < b) := by
    rw [decide_eq_decide]; exact Fm.less_iff a b
  rw [e]
  exact k
noncomputable def wQuot (C : Addr) : DW := fun ds Q X => ∃ a b : Rat, ds = [fr a, fr b] ∧ Ok a ∧ Ok b ∧ (b = 0 → X C) ∧ (b ≠ 0 → Q (.dat (fr (a / b))))
theorem ok_quotient (T : Txt K mg A) : FnOk P w K mg base (CXE P w) 4 A.a_quotient A.d_quotient ["one", "other"] (spW K (wQuot A.x_NoNumber)) := by
  have G_fraction := ok_fraction (P := P) (w := w) (base := base) T
  have G_product := ok_product (P := P) (w := w) (base := base) T
  refine okW T.F_quotient sc_quotient (fun ds Q E h => ?_) (fun cdv Ar outer s H E hr => ?_)
  · obtain ⟨a, b, rfl, _⟩ := h; rfl
  refine ⟨_, (pss_cons (ps_if (pt_cmpR op_eq (pe_ix (ixtK (K := K) rfl) (pv 1) pe_int (fun _ _ => rfl)) pe_int (nomark _)) (pss_one (ps_raise T.x_NoNumber hr.hd pass_own rfl (pa_cons pe_str pa_nil))) pss_nil)
      (pss_one (ps_ret (pe_call G_product (hr.mono (by decide)) rfl T.m_product T.F_product.kp T.b_product .nil passE0 (pa_cons (pv 0) (pa_cons (pe_call G_fraction (hr.mono (by decide)) rfl T.m_fraction T.F_fraction.kp T.b_fraction .nil passE0 (pa_cons (pe_ix (ixtK (K := K) rfl) (pv 1) pe_int (fun _ _ => rfl)) (pa_cons (pe_ix (ixtK (K := K) rfl) (pv 1) pe_int (fun _ _ => rfl)) pa_nil))) pa_nil)))))), _, (sv_seq (sv_if (tv_test (bv_ev (ev_op ro_eq (bv_ev (ev_ixk 0 (ev_var 1))) (bv_ev ev_int)))) (sv_raise (ae_cons ev_str ae_nil) (by decide)) sv_next)
      (sv_ret (bv_ev (ev_call0 (av_cons (bv_var 0) (av_cons (bv_ev (ev_call0 (av_cons (bv_ev (ev_ixk 1 (ev_var 1))) (av_cons (bv_ev (ev_ixk 0 (ev_var 1))) av_nil)))) av_nil)))))), ?_⟩
  rintro ds Q X ⟨a, b, rfl, oa, ob, k0, k1⟩
  walk_at "s"
  refine ite2 (fun c => ?_) (fun c => ?_)
  · exact k0 (Rat.num_eq_zero.mp c)
  · have c2 : b.num ≠ 0 := c
    have hb : b ≠ 0 := fun z => c2 (by rw [z]; rfl)
    walk_at "d"
    refine ⟨_, _, rfl, ob.n, fun z => absurd z c2, fun _ => ⟨rfl, a, b⁻¹, ?_, oa, ?_, rfl, ?_⟩⟩
    · rw [Fm.div_inv]
    · rw [← Fm.div_inv]
      have n1 := Fm.num_le (b.den : Int) c2
      have n2 := Fm.den_le (b.den : Int) c2
      have w3 := ob.n; have w4 := ob.d
      exact ⟨by unfold Wee at *; omega, by unfold Wee at *; omega⟩
    · dsimp only
      rw [← Rat.div_def]
      exact k1 hb
end
theorem atI_map {α β : Type} (f : α → β) (xs : List α) (i : Int) : atI (xs.map f) i = (atI xs i).map f := by
  unfold atI
  rw [List.length_map]
  cases ixN xs.length i with
  | none => rfl
  | some j => exact List.getElem?_map
theorem atI_k {α : Type} [Inhabited α] {xs : List α} {k : Int} (h0 : 0 ≤ k) (h1 : k < (xs.length : Int)) : atI xs k = some (xs.getD k.toNat default) := by
  have e : k = ((k.toNat : Nat) : Int) := by omega
  have hl : k.toNat < xs.length := by omega
  conv => lhs; rw [e]
  refine atI_nat ?_
  rw [List.getElem?_eq_getElem hl]
  simp [List.getD, hl]
theorem atI_mk {α β : Type} [Inhabited α] (f : α → β) {xs : List α} {k : Int} (h0 : 0 ≤ k) (h1 : k < (xs.length : Int)) : atI (xs.map f) k = some (f (xs.getD k.toNat default)) := by
  rw [atI_map, atI_k h0 h1]; rfl
theorem getD_mem' {α : Type} [Inhabited α] {xs : List α} {j : Nat} (h : j < xs.length) : xs.getD j default ∈ xs := by
  have e : xs.getD j default = xs[j] := by simp [List.getD, h]
  rw [e]; exact List.getElem_mem h
theorem getD_all {α : Type} [Inhabited α] {xs : List α} {j : Nat} {p : α → Prop} (h : ∀ v ∈ xs, p v) (h0 : p default) : p (xs.getD j default) := by
  by_cases hj : j < xs.length
  · exact h _ (getD_mem' hj)
  · have e : xs.getD j default = default := by simp [List.getD, hj]
    rw [e]; exact h0
section
variable {P : Program} {w : World} {K : PySem.W.Frag} {mg : Str → Option Value} {base : Heap} {A : Adr}
noncomputable def wGreatest (C : Addr) : DW := fun ds Q X => ∃ qs : List Rat, ds = [.list (qs.map fr)] ∧ (∀ q ∈ qs, Ok q) ∧ (qs = [] → X C) ∧ ∀ q ∈ qs, (∀ r ∈ qs, r ≤ q) → Q (.dat (fr q))
theorem ok_greatest_of (T : Txt K mg A) : FnOk P w K mg base (CXE P w) 2 A.a_greatest_of A.d_greatest_of ["some"] (spW K (wGreatest A.x_NoNumber)) := by
  have G_is_less := ok_is_less (P := P) (w := w) (base := base) T
  refine okW T.F_greatest_of sc_greatest_of (fun ds Q E h => ?_) (fun cdv Ar outer s H E hr => ?_)
  · obtain ⟨a, rfl, _⟩ := h; rfl
  refine ⟨_, (pss_cons (ps_if (pt_cmpR op_eq (pe_callB (lenK (K := K) rfl) rfl T.n_len PySem.boot_len (pa_cons (pv 0) pa_nil)) pe_int (nomark _)) (pss_one (ps_raise T.x_NoNumber hr.hd pass_own rfl (pa_cons pe_str pa_nil))) pss_nil)
      (pss_cons (ps_set (i := 1) sc_greatest_of.nd rfl (Or.inl rfl) (pe_ix (ixlK (K := K) rfl) (pv 0) pe_int (fun _ _ => rfl)))
      (pss_cons (ps_for PassesOwn.leaving rfl (pilK (K := K) rfl (pv 0)) (pg_name (i := 2) sc_greatest_of.nd rfl (Or.inl rfl))
        (pss_one (ps_if (pt_val (pe_call G_is_less (hr.mono (by decide)) rfl T.m_is_less T.F_is_less.kp T.b_is_less .nil passE0 (pa_cons (pv 1) (pa_cons (pv 2) pa_nil)))) (pss_one (ps_set (i := 1) sc_greatest_of.nd rfl (Or.inl rfl) (pv 2))) pss_nil)))
      (pss_one (ps_ret (pv 1)))))), _, (sv_seq (sv_if (tv_test (bv_ev (ev_op ro_eq (bv_ev (ev_cb rb_len (av_cons (bv_var 0) av_nil))) (bv_ev ev_int)))) (sv_raise (ae_cons ev_str ae_nil) (by decide)) sv_next)
      (sv_seq (sv_asg (ev_ixl (lv_var 0) (bv_ev ev_int)) (gv_name 1))
      (sv_seq (sv_for (is_list (ev_var 0)) (gv_name 2)
        (sv_if (tv_b (bv_ev (ev_call0 (av_cons (bv_var 1) (av_cons (bv_var 2) av_nil))))) (sv_asg (ev_var 2) (gv_name 1)) sv_next))
      (sv_retV 1)))), ?_⟩
  rintro ds Q X ⟨qs, rfl, ho, k0, k⟩
  walk_at "s"
  rcases qs with _ | ⟨q0, qs⟩
  · rw [if_pos (by simp)]
    exact k0 rfl
  rw [if_neg (by simp; omega)]
  walk_at "s"
  refine ⟨fr q0, atI_nat (j := 0) rfl, seq_mk (for_map fr (q0 :: qs) (fun Q h => h) (fun i δ => ∃ q r, δ = [some (.dat (.list ((q0 :: qs).map fr))), some (.dat (fr q)), r] ∧ q ∈ q0 :: qs ∧ ∀ j r, j < i → (q0 :: qs)[j]? = some r → r ≤ q) ⟨q0, none, rfl, List.mem_cons_self, fun j r hj => absurd hj (Nat.not_lt_zero _)⟩ ?_ ?_)⟩
  · rintro i q1 δ hi ⟨q, r, rfl, hq, hle⟩
    walk_at "d"
    refine ⟨q, q1, rfl, ho q hq, ho q1 (List.mem_of_getElem? hi), ?_⟩
    walk_at "d"
    have up : ∀ z, q ≤ z → q1 ≤ z → ∀ j r, j < i + 1 → (q0 :: qs)[j]? = some r → r ≤ z := fun z h1 h2 j r hj e => by
      by_cases hji : j = i
      · subst hji
        rw [hi] at e
        cases e
        exact h2
      · exact Rat.le_trans (hle j r (by omega) e) h1
    refine ite2 (fun c => ?_) (fun c => ?_)
    · exact ⟨q1, _, rfl, List.mem_of_getElem? hi, up q1 (by grind) Rat.le_refl⟩
    · exact ⟨q, _, rfl, hq, up q Rat.le_refl (Rat.not_lt.mp c)⟩
  · rintro δ ⟨q, r, rfl, hq, hle⟩
    walk_at "d"
    refine k q hq fun r hr' => ?_
    obtain ⟨j, hj⟩ := List.getElem?_of_mem hr'
    exact hle j r (List.getElem?_eq_some_iff.mp hj).1 hj
end
noncomputable def tot : List Rat → Rat
  | [] => 0
  | q :: qs => q + tot qs
theorem tot_app : ∀ (a b : List Rat), tot (a ++ b) = tot a + tot b
  | [], b => by simp [tot, Rat.zero_add]
  | q :: a, b => by
    show q + tot (a ++ b) = q + tot a + tot b
    rw [tot_app a b, Rat.add_assoc]
theorem tot_snoc (qs : List Rat) (q : Rat) : tot (qs ++ [q]) = tot qs + q := by
  rw [tot_app]
  simp [tot, Rat.add_zero]
theorem take_snoc {α : Type} {xs : List α} {i : Nat} {x : α} (h : xs[i]? = some x) : xs.take (i + 1) = xs.take i ++ [x] := by
  rw [List.take_add_one, h]; rfl
section
variable {P : Program} {w : World} {K : PySem.W.Frag} {mg : Str → Option Value} {base : Heap} {A : Adr}
noncomputable def wTotal : DW := fun ds Q _ => ∃ qs : List Rat, ds = [.list (qs.map fr)] ∧ (∀ q ∈ qs, Ok q) ∧ (∀ i, Ok (tot (qs.take i))) ∧ Q (.dat (fr (tot qs)))
theorem ok_total_of (T : Txt K mg A) : FnOk P w K mg base (CXE P w) 3 A.a_total_of A.d_total_of ["some"] (spW K wTotal) := by
  have G_plus := ok_plus (P := P) (w := w) (base := base) T
  refine okW T.F_total_of sc_total_of (fun ds Q E h => ?_) (fun cdv Ar outer s H E hr => ?_)
  · obtain ⟨a, rfl, _⟩ := h; rfl
  refine ⟨_, (pss_cons (ps_set (i := 1) sc_total_of.nd rfl (Or.inl rfl) (pe_glob rfl T.c_NOUGHT (show RelV (.ref _) (.ref _) from rfl)))
      (pss_cons (ps_for PassesOwn.leaving rfl (pilK (K := K) rfl (pv 0)) (pg_name (i := 2) sc_total_of.nd rfl (Or.inl rfl))
        (pss_one (ps_set (i := 1) sc_total_of.nd rfl (Or.inl rfl) (pe_call G_plus (hr.mono (by decide)) rfl T.m_plus T.F_plus.kp T.b_plus .nil passE0 (pa_cons (pv 1) (pa_cons (pv 2) pa_nil))))))
      (pss_one (ps_ret (pv 1))))), _, (sv_seq (sv_asg (ev_c T.k_NOUGHT) (gv_name 1))
      (sv_seq (sv_for (is_list (ev_var 0)) (gv_name 2)
        (sv_asg (ev_call0 (av_cons (bv_var 1) (av_cons (bv_var 2) av_nil))) (gv_name 1)))
      (sv_retV 1))), ?_⟩
  rintro ds Q X ⟨qs, rfl, ho, ht, k⟩
  walk_at "s"
  refine ?_
  refine seq_mk (for_map fr qs (fun Q h => h) (fun i δ => ∃ r, δ = [some (.dat (.list (qs.map fr))), some (.dat (fr (tot (qs.take i)))), r]) ⟨none, rfl⟩ ?_ ?_)
  · rintro i q δ hi ⟨r, rfl⟩
    walk_at "d"
    refine ⟨_, q, rfl, ht i, ho q (List.mem_of_getElem? hi), ?_⟩
    walk_at "d"
    exact ⟨_, by rw [take_snoc hi, tot_snoc]⟩
  · rintro δ ⟨r, rfl⟩
    walk_at "d"
    rw [List.take_of_length_le (Nat.le_refl _)]
    exact k
end
theorem flat_single {α β : Type} (f : α → β) : ∀ xs : List α, xs.flatMap (fun x => [f x]) = xs.map f
  | [] => rfl
  | x :: xs => by simp [flat_single f xs]
noncomputable abbrev Mk := Rat × Rat × Int
noncomputable abbrev mk3 (m : Mk) : PyData := .tuple [fr m.1, fr m.2.1, .int m.2.2]
noncomputable def eMark : Enc Mk where
  d := mk3
  dep := 2
  small := by decide
  lay := fun m => by simp [PyData.canLay0, PyData.canLayAll0]
  depth := fun m => by simp [PyData.depth, PyData.depthAll]
  eqv := fun p q => by
    have h1 := eRat.eqv p.1 q.1
    have h2 := eRat.eqv p.2.1 q.2.1
    have e1 : PyData.eqv (fr p.1) (fr q.1) = PyData.eqv (eRat.d p.1) (eRat.d q.1) := rfl
    have e2 : PyData.eqv (fr p.2.1) (fr q.2.1) = PyData.eqv (eRat.d p.2.1) (eRat.d q.2.1) := rfl
    show PyData.eqvAll [fr p.1, fr p.2.1, .int p.2.2] [fr q.1, fr q.2.1, .int q.2.2] = true ↔ p = q
    rw [PyData.eqvAll, PyData.eqvAll, PyData.eqvAll, e1, e2]
    simp only [Bool.and_eq_true, h1, h2, PyData.eqv, PyData.eqvAll, beq_iff_eq, and_true]
    constructor
    · rintro ⟨a, b, c⟩
      exact Prod.ext a (Prod.ext b c)
    · rintro rfl
      exact ⟨rfl, rfl, rfl⟩
theorem mks_flat : ∀ ms : List Mk, flatDs (ms.map mk3) = true
  | [] => rfl
  | m :: ms => by
    have := mks_flat ms
    simp only [List.map_cons, flatDs, flatD, this, Bool.and_self]
noncomputable def Bg (n : Nat) (v : Int) : Prop := v.natAbs < 2 ^ n
theorem Bg.bits {n : Nat} {v : Int} (h : Bg n v) : Builtin.Int.intBits v ≤ n := bits_lt h
theorem Bg.of {n : Nat} {v : Int} (h : Builtin.Int.intBits v ≤ n) : Bg (n + 1) v := by
  unfold Bg
  by_cases h0 : v = 0
  · subst h0; exact Nat.two_pow_pos _
  · unfold Builtin.Int.intBits at h
    rw [if_neg (by simpa using h0)] at h
    exact (Nat.log2_lt (by omega)).mp (by omega)
theorem Bg.mono {n m : Nat} {v : Int} (h : Bg n v) (l : n ≤ m) : Bg m v := Nat.lt_of_lt_of_le h (Nat.pow_le_pow_right (by decide) l)
theorem Bg.add {n : Nat} {a b : Int} (ha : Bg n a) (hb : Bg n b) : Bg (n + 1) (a + b) := by
  unfold Bg at *
  rw [Nat.pow_succ]
  have := Int.natAbs_add_le a b
  omega
theorem Bg.small {n : Nat} {a : Int} (h : a.natAbs < 2 ^ 64) (hn : 64 ≤ n) : Bg n a := Nat.lt_of_lt_of_le h (Nat.pow_le_pow_right (by decide) hn)
open Fm
theorem dgOk {n : Nat} {q : Rat} (h : Dg n q) (l : n ≤ 2400) : Ok q := okS (h.mono l) (by decide +kernel)
theorem tenWee {n : Nat} {i : Int} (h : i.natAbs ≤ 10 ^ n) (l : n ≤ 2400) : Wee i := weeLe (Nat.le_trans h (ten_le l)) (by decide +kernel)
theorem mul_divInt (a b : Rat) : Rat.divInt (a.num * b.num) ((a.den : Int) * (b.den : Int)) = a * b := by
  have h1 := Fm.num_eq a
  have h2 := Fm.num_eq b
  refine (Fm.eq_divInt (by have := a.den_nz; have := b.den_nz; exact Int.mul_ne_zero (by omega) (by omega)) ?_).symm
  rw [Rat.intCast_mul, Rat.intCast_mul, h1, h2]
  simp only [Rat.intCast_natCast]
  grind
theorem add_divInt (a b : Rat) : Rat.divInt (a.num * (b.den : Int) + b.num * (a.den : Int)) ((a.den : Int) * (b.den : Int)) = a + b := by
  have h1 := Fm.num_eq a
  have h2 := Fm.num_eq b
  refine (Fm.eq_divInt (by have := a.den_nz; have := b.den_nz; exact Int.mul_ne_zero (by omega) (by omega)) ?_).symm
  rw [Rat.intCast_mul, Rat.intCast_add, Rat.intCast_mul, Rat.intCast_mul, h1, h2]
  simp only [Rat.intCast_natCast]
  grind
theorem den2_ne (a b : Rat) : ((a.den : Int) * (b.den : Int)) ≠ 0 := by have := a.den_nz; have := b.den_nz; exact Int.mul_ne_zero (by omega) (by omega)
theorem den2_wee {a b : Rat} {n m : Nat} (ha : Dg n a) (hb : Dg m b) (l : n + m ≤ 2400) : Wee ((a.den : Int) * (b.den : Int)) := by
  refine tenWee (n := n + m) ?_ l
  rw [Int.natAbs_mul, Nat.pow_add]
  exact Nat.mul_le_mul ha.d hb.d
theorem pairD_map {α β : Type} (f : α → PyData) (g : β → PyData) : ∀ (xs : List α) (ys : List β), pairD (xs.map f) (ys.map g) = (xs.zip ys).map fun p => PyData.tuple [f p.1, g p.2]
  | [], _ => by simp [Dl.pairD]
  | x :: xs, [] => by simp [Dl.pairD]
  | x :: xs, y :: ys => by
    have := pairD_map f g xs ys
    simp [Dl.pairD, this]
theorem zip_map {α β γ : Type} (f : α → β → γ) : ∀ (xs : List α) (ys : List β), ((xs.zip ys).map fun p => f p.1 p.2) = List.zipWith f xs ys
  | [], _ => by simp
  | x :: xs, [] => by simp
  | x :: xs, y :: ys => by simp [zip_map f xs ys]
theorem zip_all {α β : Type} {p : α → Prop} {q : β → Prop} : ∀ {xs : List α} {ys : List β}, (∀ x ∈ xs, p x) → (∀ y ∈ ys, q y) → ∀ z ∈ xs.zip ys, p z.1 ∧ q z.2 := fun {xs ys} h1 h2 z hz => by
  have := List.of_mem_zip (a := z.1) (b := z.2) hz
  exact ⟨h1 _ this.1, h2 _ this.2⟩
theorem zipWith_all {α β γ : Type} {f : α → β → γ} {p : α → Prop} {q : β → Prop} {r : γ → Prop} {xs : List α} {ys : List β} (h1 : ∀ x ∈ xs, p x) (h2 : ∀ y ∈ ys, q y) (h : ∀ x y, p x → q y → r (f x y)) : ∀ z ∈ List.zipWith f xs ys, r z := fun z hz => by
  rw [← zip_map] at hz
  obtain ⟨w, hw, rfl⟩ := List.mem_map.mp hz
  have := zip_all h1 h2 w hw
  exact h _ _ this.1 this.2
noncomputable def missR (ms : List Mk) (row : List Rat) : List Rat := List.zipWith (fun (m : Mk) h => m.2.1 - h) ms row
noncomputable def wmissR (ms : List Mk) (row : List Rat) : List Rat := List.zipWith (fun (m : Mk) x => (m.2.2 : Rat) * x) ms (missR ms row)
noncomputable def sqR (ms : List Mk) (row : List Rat) : List Rat := List.zipWith (fun a b => a * b) (wmissR ms row) (missR ms row)
noncomputable def maxR : List Rat → Rat
  | [] => 0
  | x :: xs => if maxR xs < x then x else maxR xs
theorem maxR_nn : ∀ xs : List Rat, 0 ≤ maxR xs
  | [] => Rat.le_refl
  | x :: xs => by
    have := maxR_nn xs
    unfold maxR
    split
    · grind
    · exact this
theorem maxR_le : ∀ {xs : List Rat}, ∀ x ∈ xs, x ≤ maxR xs
  | y :: xs, x, h => by
    have ih := @maxR_le xs
    unfold maxR
    rcases List.mem_cons.mp h with rfl | h
    · split
      · exact Rat.le_refl
      · exact Rat.not_lt.mp ‹_›
    · have := ih x h
      split
      · grind
      · exact this
theorem maxR_mem : ∀ {xs : List Rat}, maxR xs = 0 ∨ maxR xs ∈ xs
  | [] => .inl rfl
  | x :: xs => by
    unfold maxR
    split
    · exact .inr List.mem_cons_self
    · rcases @maxR_mem xs with h | h
      · exact .inl h
      · exact .inr (List.mem_cons_of_mem _ h)
theorem maxR_eq {xs : List Rat} {m : Rat} (h0 : 0 ≤ m) (h1 : m = 0 ∨ m ∈ xs) (h2 : ∀ x ∈ xs, x ≤ m) : m = maxR xs := by
  refine Rat.le_antisymm ?_ ?_
  · rcases h1 with rfl | h1
    · exact maxR_nn xs
    · exact maxR_le m h1
  · rcases @maxR_mem xs with h | h
    · rw [h]; exact h0
    · exact h2 _ h
theorem Cm.tot {L B : Nat} : ∀ {qs : List Rat}, (∀ q ∈ qs, Cm L B q) → Cm L (qs.length * B) (tot qs)
  | [], _ => Cm.zero
  | q :: qs, h => by
    have h1 := h q List.mem_cons_self
    have h2 := Cm.tot (qs := qs) fun x hx => h x (List.mem_cons_of_mem _ hx)
    exact (h1.add h2).mono (Nat.dvd_refl _) (by rw [List.length_cons, Nat.add_mul]; omega)
theorem two_ten {B b : Nat} (h : B ≤ 10 ^ b) : B + B ≤ 10 ^ (b + 1) := by rw [Nat.pow_succ]; omega
theorem sixty_ten {n B b : Nat} (hn : n ≤ 60) (h : B ≤ 10 ^ b) : n * B ≤ 10 ^ (b + 2) := by
  have : n * B ≤ 60 * 10 ^ b := Nat.mul_le_mul hn h
  rw [Nat.pow_add]
  omega
structure MSz (L B W l b wd : Nat) (ms : List Mk) (row : List Rat) : Prop where
  len : ms.length ≤ 60
  pos : 0 < L
  pL : L ≤ 10 ^ l
  pB : B ≤ 10 ^ b
  pW : W ≤ 10 ^ wd
  h : ∀ m ∈ ms, Cm L B m.2.1
  r : ∀ q ∈ row, Cm L B q
  w : ∀ m ∈ ms, m.2.2.natAbs ≤ W
  fit : 2 * l + 2 * b + wd + 6 ≤ 2400
section
variable {L B W l b wd : Nat} {ms : List Mk} {row : List Rat}
theorem MSz.miss (z : MSz L B W l b wd ms row) : ∀ x ∈ missR ms row, Cm L (B + B) x := zipWith_all z.h z.r fun _ _ h1 h2 => h1.sub h2
theorem MSz.wmiss (z : MSz L B W l b wd ms row) : ∀ x ∈ wmissR ms row, Cm L (W * (B + B)) x := zipWith_all z.w z.miss fun _ _ h1 h2 => ((Cm.int h1).mul h2).mono (by rw [Nat.one_mul]; exact Nat.dvd_refl _) (Nat.le_refl _)
theorem MSz.sq (z : MSz L B W l b wd ms row) : ∀ x ∈ sqR ms row, Cm (L * L) (W * (B + B) * (B + B)) x := zipWith_all z.wmiss z.miss fun _ _ h1 h2 => h1.mul h2
theorem MSz.missOk (z : MSz L B W l b wd ms row) : ∀ x ∈ missR ms row, Ok x := fun x hx => dgOk ((z.miss x hx).dg z.pos z.pL (two_ten z.pB)) (by have := z.fit; omega)
theorem MSz.hOk (z : MSz L B W l b wd ms row) : ∀ m ∈ ms, Ok m.2.1 := fun m hm => dgOk ((z.h m hm).dg z.pos z.pL z.pB) (by have := z.fit; omega)
theorem MSz.rOk (z : MSz L B W l b wd ms row) : ∀ q ∈ row, Ok q := fun m hm => dgOk ((z.r m hm).dg z.pos z.pL z.pB) (by have := z.fit; omega)
theorem MSz.wOk (z : MSz L B W l b wd ms row) {m : Mk} (hm : m ∈ ms) : Ok (m.2.2 : Rat) := ⟨tenWee (Nat.le_trans (z.w m hm) z.pW) (by have := z.fit; omega), show Wee ((1 : Nat) : Int) from wee (by decide +kernel)⟩
end
section
variable {P : Program} {w : World} {K : PySem.W.Frag} {mg : Str → Option Value} {base : Heap} {A : Adr}
noncomputable def wSize : DW := fun ds Q _ => ∃ q : Rat, ds = [fr q] ∧ Q (.dat (fr (absR q)))
theorem ok_size_of (T : Txt K mg A) : FnOk P w K mg base (CXE P w) 1 A.a_size_of A.d_size_of ["one"] (spW K wSize) := by
  refine okW T.F_size_of sc_size_of (fun ds Q E h => ?_) (fun cdv Ar outer s H E hr => ?_)
  · obtain ⟨_, rfl, _⟩ := h; rfl
  refine ⟨_, (pss_one (ps_ret (pe_tup (pa_cons (pe_callB call_abs rfl T.n_abs bt_abs (pa_cons (pe_ix (ixtK (K := K) rfl) (pv 0) pe_int (fun _ _ => rfl)) pa_nil)) (pa_cons (pe_ix (ixtK (K := K) rfl) (pv 0) pe_int (fun _ _ => rfl)) pa_nil))))), _, (sv_ret (bv_ev (ev_tup (ae_cons (ev_cb rb_abs (av_cons (bv_ev (ev_ixk 0 (ev_var 0))) av_nil)) (ae_cons (ev_ixk 1 (ev_var 0)) ae_nil)) (by decide)))), ?_⟩
  rintro ds Q X ⟨q, rfl, k⟩
  walk_at "d"
  rw [Fm.abs_if]
  exact k
noncomputable def wMisses : DW := fun ds Q _ => ∃ (ms : List Mk) (row : List Rat), ds = [.list (ms.map mk3), .list (row.map fr)] ∧ ms.length ≤ 1000 ∧ (∀ m ∈ ms, Ok m.2.1) ∧ (∀ q ∈ row, Ok q) ∧ Q (.own ((missR ms row).map fr))
theorem ok_misses_of (T : Txt K mg A) : FnOk P w K mg base (CXE P w) 4 A.a_misses_of A.d_misses_of ["marks", "row"] (spW K wMisses) := by
  have G_minus := ok_minus (P := P) (w := w) (base := base) T
  refine okW T.F_misses_of sc_misses_of (fun ds Q E h => ?_) (fun cdv Ar outer s H E hr => ?_)
  · obtain ⟨_, _, rfl, _⟩ := h; rfl
  refine ⟨_, (pss_one (ps_ret (pe_lc (cap := [none, none]) (NC := ["mark", "height"]) rfl ⟨rfl, rfl, by decide +kernel, by decide +kernel, trivial, (fun _ h => nomatch h), rfl⟩ (pi_zip (K := K) rfl rfl T.n_zip (pa_cons (pv 0) (pa_cons (pv 1) pa_nil))) (fun _ _ _ _ => (pgtK (K := K) (n := 2) rfl rfl (pgs_cons (pg_name (i := 0) (show List.Nodup (["mark", "height"] : List Str) by decide) rfl (Or.inl rfl)) (pgs_cons (pg_name (i := 1) (show List.Nodup (["mark", "height"] : List Str) by decide) rfl (Or.inl rfl)) pgs_nil)))) (fun _ _ _ _ => pts_nil) (fun _ _ _ _ => (pe_call G_minus (hr.mono (by decide)) rfl T.m_minus T.F_minus.kp T.b_minus .nil passE0 (pa_cons (pe_ix (ixtK (K := K) rfl) (pv 0) pe_int (fun _ _ => rfl)) (pa_cons (pv 1) pa_nil))))))), _, (sv_retO (ov_lc (ie_zip (lv_var 0) (lv_var 1)) (gv_tup (gs_cons (gv_name 0) (gs_cons (gv_name 1) gs_nil))) tv_yes (ev_call0 (av_cons (bv_ev (ev_ixk 1 (ev_var 0))) (av_cons (bv_var 1) av_nil))) (by decide) (by decide))), ?_⟩
  rintro ds Q X ⟨ms, row, rfl, hl, hm, hr', k⟩
  walk_at "d"
  refine lc_map (fun p : Mk × Rat => PyData.tuple [mk3 p.1, fr p.2]) fr (fun p : Mk × Rat => [p.1.2.1 - p.2]) (ms.zip row) (by rw [List.length_zip]; omega) (fun Q h => by
      walk_at "d"
      rw [pairD_map]; exact h) (fun p hp N acc hN => ?_) ?_
  · have := zip_all hm hr' p hp
    walk_at "d"
    refine ⟨p.1.2.1, p.2, rfl, this.1, this.2, ?_⟩
    walk_at "d"
    exact hN
  · rw [flat_single, zip_map (fun (m : Mk) h => m.2.1 - h)]
    exact k
noncomputable def wWeighed : DW := fun ds Q _ => ∃ (ms : List Mk) (row : List Rat) (L B W l b wd : Nat), ds = [.list (ms.map mk3), .list (row.map fr)] ∧ MSz L B W l b wd ms row ∧ Q (.own ((wmissR ms row).map fr))
theorem ok_weighed_misses (T : Txt K mg A) : FnOk P w K mg base (CXE P w) 5 A.a_weighed_misses A.d_weighed_misses ["marks", "row"] (spW K wWeighed) := by
  have G_product := ok_product (P := P) (w := w) (base := base) T
  have G_misses_of := ok_misses_of (P := P) (w := w) (base := base) T
  refine okW T.F_weighed_misses sc_weighed_misses (fun ds Q E h => ?_) (fun cdv Ar outer s H E hr => ?_)
  · obtain ⟨_, _, _, _, _, _, _, _, rfl, _⟩ := h; rfl
  refine ⟨_, (pss_one (ps_ret (pe_lc (cap := [none, none]) (NC := ["mark", "miss"]) rfl ⟨rfl, rfl, by decide +kernel, by decide +kernel, trivial, (fun _ h => nomatch h), rfl⟩ (pi_zip (K := K) rfl rfl T.n_zip (pa_cons (pv 0) (pa_cons (pe_call G_misses_of (hr.mono (by decide)) rfl T.m_misses_of T.F_misses_of.kp T.b_misses_of .nil passE0 (pa_cons (pv 0) (pa_cons (pv 1) pa_nil))) pa_nil))) (fun _ _ _ _ => (pgtK (K := K) (n := 2) rfl rfl (pgs_cons (pg_name (i := 0) (show List.Nodup (["mark", "miss"] : List Str) by decide) rfl (Or.inl rfl)) (pgs_cons (pg_name (i := 1) (show List.Nodup (["mark", "miss"] : List Str) by decide) rfl (Or.inl rfl)) pgs_nil)))) (fun _ _ _ _ => pts_nil) (fun _ _ _ _ => (pe_call G_product (hr.mono (by decide)) rfl T.m_product T.F_product.kp T.b_product .nil passE0 (pa_cons (pe_tup (pa_cons (pe_ix (ixtK (K := K) rfl) (pv 0) pe_int (fun _ _ => rfl)) (pa_cons pe_int pa_nil))) (pa_cons (pv 1) pa_nil))))))), _, (sv_retO (ov_lc (ie_zip (lv_var 0) (lv_ov (ov_call0 (av_cons (bv_var 0) (av_cons (bv_var 1) av_nil))))) (gv_tup (gs_cons (gv_name 0) (gs_cons (gv_name 1) gs_nil))) tv_yes (ev_call0 (av_cons (bv_ev (ev_tup (ae_cons (ev_ixk 2 (ev_var 0)) (ae_cons ev_int ae_nil)) (by decide))) (av_cons (bv_var 1) av_nil))) (by decide) (by decide))), ?_⟩
  rintro ds Q X ⟨ms, row, L, B, W, l, b, wd, rfl, z, k⟩
  walk_at "d"
  refine lc_map (fun p : Mk × Rat => PyData.tuple [mk3 p.1, fr p.2]) fr (fun p : Mk × Rat => [(p.1.2.2 : Rat) * p.2]) (ms.zip (missR ms row)) (by rw [List.length_zip]; have := z.len; omega) (fun Q h => by
      walk_at "d"
      refine ⟨ms, row, rfl, by have := z.len; omega, z.hOk, z.rOk, ?_⟩
      walk_at "d"
      refine ⟨frs_flat _, ?_⟩
      rw [pairD_map]; exact h) (fun p hp N acc hN => ?_) ?_
  · have := zip_all (p := fun m => m ∈ ms) (fun _ h => h) z.missOk p hp
    walk_at "d"
    refine ⟨(p.1.2.2 : Rat), p.2, rfl, z.wOk this.1, this.2, ?_⟩
    walk_at "d"
    exact hN
  · rw [flat_single, zip_map (fun (m : Mk) x => (m.2.2 : Rat) * x)]
    exact k
noncomputable def kdsL : List Str := ["far", "sum", "square"]
noncomputable def kdsS : List { x : Str // PyData.strOk x = true } := [⟨"far", by decide +kernel⟩, ⟨"sum", by decide +kernel⟩, ⟨"square", by decide +kernel⟩]
theorem kds_mem {kd : Str} (h : PyData.strOk kd = true) : (⟨kd, h⟩ : { x : Str // PyData.strOk x = true }) ∈ kdsS ↔ kd ∈ kdsL := by
  simp [kdsS, kdsL, Subtype.ext_iff]
noncomputable def wCheck (C : Addr) : DW := fun ds Q X => ∃ d : PyData, ds = [d] ∧ (∀ kd : Str, d = .str kd → PyData.strOk kd = true) ∧ ((∃ kd : Str, d = .str kd ∧ kd ∈ kdsL) → Q (.dat .none)) ∧ ((∀ kd : Str, d = .str kd → kd ∉ kdsL) → X C)
theorem ok_check_kind (T : Txt K mg A) : FnOk P w K mg base (CXE P w) 1 A.a_check_kind A.d_check_kind ["kind"] (spW K (wCheck A.x_NoKind)) := by
  refine okW T.F_check_kind sc_check_kind (fun ds Q E h => ?_) (fun cdv Ar outer s H E hr => ?_)
  · obtain ⟨_, rfl, _⟩ := h; rfl
  refine ⟨_, (pss_one (ps_if (PW.pt (pw_or (pt_not (pt_val (pe_callB (isiDK (K := K) rfl) rfl T.n_isinstance bt_isinstance (pa_cons (pv 0) (pa_cons (pe_bltn rfl T.n_str bt_str (show RelV (.ty "str") (.type "str") from rfl)) pa_nil))))) (pw_or1 (pt_cmpR (notInTK (K := K) rfl hr.units) (pv 0) (pe_glob rfl T.c_KINDS (show RelV (.ref _) (.ref _) from rfl)) rfl)))) (pss_one (ps_raise T.x_NoKind hr.hd pass_own rfl (pa_cons pe_str pa_nil))) pss_nil)), _, (sv_if (tv_or (tv_not (tv_b (bv_ev (ev_isi (by decide) (bv_var 0))))) (tv_test (bv_ev (ev_op ro_notInT (bv_var 0) (bv_ev (ev_c T.k_KINDS)))))) (sv_raise (ae_cons ev_str ae_nil) (by decide)) sv_next), ?_⟩
  rintro ds Q X ⟨d, rfl, ok, k1, k2⟩
  have no : (∀ kd : Str, d ≠ .str kd) → X A.x_NoKind := fun h => k2 fun kd e => absurd e (h kd)
  cases d with
  | str kd =>
    walk_at "d"
    refine ⟨_, eStr, ⟨kd, ok kd rfl⟩, kdsS, rfl, rfl, fun b hb => ?_⟩
    rw [kds_mem] at hb
    cases b with
    | true =>
      walk_at "d"
      exact k1 ⟨kd, rfl, hb.mp rfl⟩
    | false =>
      walk_at "d"
      refine k2 fun kd' e h => ?_
      cases e
      exact absurd (hb.mpr h) (by decide)
  | _ => exact no fun _ => by simp
end
noncomputable def sumN : Nat → (Nat → Rat) → Rat
  | 0, _ => 0
  | n + 1, f => sumN n f + f n
theorem sumN_congr {n : Nat} {f g : Nat → Rat} (h : ∀ j, j < n → f j = g j) : sumN n f = sumN n g := by
  induction n with
  | zero => rfl
  | succ n ih => rw [sumN, sumN, ih fun j hj => h j (by omega), h n (by omega)]
theorem sumN_zero {n : Nat} {f : Nat → Rat} (h : ∀ j, j < n → f j = 0) : sumN n f = 0 := by
  induction n with
  | zero => rfl
  | succ n ih => rw [sumN, ih fun j hj => h j (by omega), h n (by omega), Rat.add_zero]
theorem sumN_lin {n : Nat} (f g : Nat → Rat) (c : Rat) : sumN n (fun j => f j - c * g j) = sumN n f - c * sumN n g := by
  induction n with
  | zero => simp only [sumN]; grind
  | succ n ih => simp only [sumN, ih]; grind
theorem sumN_mul {n : Nat} (f : Nat → Rat) (c : Rat) : sumN n (fun j => c * f j) = c * sumN n f := by
  induction n with
  | zero => simp only [sumN]; grind
  | succ n ih => simp only [sumN, ih]; grind
theorem sumN_one {n i : Nat} {f : Nat → Rat} (hi : i < n) (h : ∀ j, j < n → j ≠ i → f j = 0) : sumN n f = f i := by
  induction n with
  | zero => omega
  | succ n ih =>
    rw [sumN]
    by_cases e : i = n
    · subst e
      rw [sumN_zero fun j hj => h j (by omega) (by omega), Rat.zero_add]
    · rw [ih (by omega) fun j hj => h j (by omega), h n (by omega) (Ne.symm e), Rat.add_zero]
noncomputable def lin (n : Nat) (r : List Rat) (y : Nat → Rat) : Rat := sumN n fun j => r.getD j 0 * y j
noncomputable def Hom (n : Nat) (rows : List (List Rat)) (y : Nat → Rat) : Prop := ∀ r ∈ rows, lin n r y = 0
noncomputable def leadR (f : List Rat) (c : Nat) : List Rat := f.map fun a => a / f.getD c 0
noncomputable def withoutR (r l : List Rat) (c : Nat) : List Rat := List.zipWith (fun a b => a - r.getD c 0 * b) r l
noncomputable def clearR (rows : List (List Rat)) (spot c : Nat) : List (List Rat) :=
  let l := leadR (rows.getD spot []) c
  let o := (rows.take spot ++ rows.drop (spot + 1)).map fun r => withoutR r l c
  o.take c ++ [l] ++ o.drop c
theorem getD_map' {f : Rat → Rat} {xs : List Rat} {j : Nat} (h : j < xs.length) : (xs.map f).getD j 0 = f (xs.getD j 0) := by simp [List.getD, h]
theorem getD_zipW {f : Rat → Rat → Rat} {xs ys : List Rat} {j : Nat} (h : j < xs.length) (h2 : j < ys.length) : (List.zipWith f xs ys).getD j 0 = f (xs.getD j 0) (ys.getD j 0) := by
  have hz : j < (List.zipWith f xs ys).length := by rw [List.length_zipWith]; omega
  simp only [List.getD_eq_getElem?_getD, List.getElem?_eq_getElem hz, List.getElem?_eq_getElem h, List.getElem?_eq_getElem h2, List.getElem_zipWith, Option.getD_some]
theorem lead_at {f : List Rat} {c j : Nat} (h : j < f.length) : (leadR f c).getD j 0 = f.getD j 0 / f.getD c 0 := getD_map' h
theorem without_at {r l : List Rat} {c j : Nat} (h : j < r.length) (h2 : j < l.length) : (withoutR r l c).getD j 0 = r.getD j 0 - r.getD c 0 * l.getD j 0 := getD_zipW h h2
theorem lin_lead {f : List Rat} {c m : Nat} (h : m ≤ f.length) (y : Nat → Rat) : lin m (leadR f c) y = (f.getD c 0)⁻¹ * lin m f y := by
  unfold lin
  rw [← sumN_mul]
  refine sumN_congr fun j hj => ?_
  rw [lead_at (by omega), Rat.div_def]
  grind
theorem lin_without {r l : List Rat} {c m : Nat} (h : m ≤ r.length) (h2 : m ≤ l.length) (y : Nat → Rat) : lin m (withoutR r l c) y = lin m r y - r.getD c 0 * lin m l y := by
  unfold lin
  rw [← sumN_lin]
  refine sumN_congr fun j hj => ?_
  rw [without_at (by omega) (by omega)]
  grind
theorem mem_clear {rows : List (List Rat)} {spot c : Nat} {r : List Rat} : r ∈ clearR rows spot c ↔ r = leadR (rows.getD spot []) c ∨ ∃ q ∈ rows.eraseIdx spot, r = withoutR q (leadR (rows.getD spot []) c) c := by
  unfold clearR
  rw [← List.eraseIdx_eq_take_drop_succ]
  dsimp only
  generalize leadR (rows.getD spot []) c = l
  generalize rows.eraseIdx spot = e
  rw [List.append_assoc, List.mem_append, List.mem_append]
  have hm : r ∈ (e.map fun r => withoutR r l c) ↔ ∃ q ∈ e, r = withoutR q l c := by
    rw [List.mem_map]
    exact ⟨fun ⟨q, h, e⟩ => ⟨q, h, e.symm⟩, fun ⟨q, h, e⟩ => ⟨q, h, e.symm⟩⟩
  have hs : r ∈ (e.map fun r => withoutR r l c) ↔ r ∈ (e.map fun r => withoutR r l c).take c ∨ r ∈ (e.map fun r => withoutR r l c).drop c := by
    rw [← List.mem_append, List.take_append_drop]
  rw [← hm, hs, List.mem_singleton]
  constructor
  · rintro (h | h | h)
    · exact .inr (.inl h)
    · exact .inl h
    · exact .inr (.inr h)
  · rintro (h | h | h)
    · exact .inr (.inl h)
    · exact .inl h
    · exact .inr (.inr h)
theorem mem_erase {rows : List (List Rat)} {spot : Nat} (hs : spot < rows.length) {r : List Rat} (h : r ∈ rows) : r = rows.getD spot [] ∨ r ∈ rows.eraseIdx spot := by
  obtain ⟨i, hi, rfl⟩ := List.getElem_of_mem h
  by_cases e : i = spot
  · subst e
    left; simp [List.getD, hi]
  · right
    rw [List.mem_eraseIdx_iff_getElem]
    exact ⟨i, hi, e, rfl⟩
theorem hom_clear {rows : List (List Rat)} {spot c m : Nat} (hs : spot < rows.length) (hl : ∀ r ∈ rows, m ≤ r.length) (hp : (rows.getD spot []).getD c 0 ≠ 0) (y : Nat → Rat) : Hom m (clearR rows spot c) y ↔ Hom m rows y := by
  have hf : rows.getD spot [] ∈ rows := by
    have : rows.getD spot [] = rows[spot] := by simp [List.getD, hs]
    rw [this]; exact List.getElem_mem hs
  have hfl := hl _ hf
  have hll : m ≤ (leadR (rows.getD spot []) c).length := by unfold leadR; rw [List.length_map]; exact hfl
  constructor
  · intro h
    have h1 : lin m (rows.getD spot []) y = 0 := by
      have := h _ (mem_clear.mpr (.inl rfl))
      rw [lin_lead hfl] at this
      rcases Rat.mul_eq_zero.mp this with z | z
      · exfalso
        have := Rat.inv_mul_cancel _ hp
        rw [z, Rat.zero_mul] at this
        exact absurd this (by decide)
      · exact z
    intro r hr
    rcases mem_erase hs hr with e | e
    · rw [e]; exact h1
    · have := h _ (mem_clear.mpr (.inr ⟨r, e, rfl⟩))
      rw [lin_without (hl r hr) hll, lin_lead hfl, h1] at this
      grind
  · intro h r hr
    have h1 := h _ hf
    rcases mem_clear.mp hr with e | ⟨q, hq, e⟩
    · rw [e, lin_lead hfl, h1, Rat.mul_zero]
    · have hq2 := List.mem_of_mem_eraseIdx hq
      rw [e, lin_without (hl q hq2) hll, lin_lead hfl, h1, h q hq2]
      grind
noncomputable def Form (k : Nat) (rows : List (List Rat)) : Prop := ∀ i, i < rows.length → ∀ j, j < k → (rows.getD i []).getD j 0 = if i = j then 1 else 0
theorem len_clear {rows : List (List Rat)} {spot c : Nat} (hs : spot < rows.length) (hc : c ≤ spot) : (clearR rows spot c).length = rows.length := by
  unfold clearR
  simp only [List.length_append, List.length_take, List.length_drop, List.length_map, List.length_singleton]
  omega
theorem clear_at {rows : List (List Rat)} {spot c i : Nat} (hs : spot < rows.length) (hc : c ≤ spot) (hi : i < rows.length) :
    (clearR rows spot c).getD i [] = if i = c then leadR (rows.getD spot []) c else withoutR (rows.getD (if i < c then i else if i ≤ spot then i - 1 else i) []) (leadR (rows.getD spot []) c) c := by
  unfold clearR
  dsimp only
  generalize leadR (rows.getD spot []) c = l
  rw [← List.eraseIdx_eq_take_drop_succ]
  have el : (rows.eraseIdx spot).length = rows.length - 1 := by rw [List.length_eraseIdx, if_pos hs]
  have at' : ∀ t, t < rows.length - 1 → ((rows.eraseIdx spot).map fun r => withoutR r l c)[t]? = some (withoutR (rows.getD (if t < spot then t else t + 1) []) l c) := fun t ht => by
    rw [List.getElem?_map, List.getElem?_eraseIdx]
    by_cases h : t < spot
    · rw [if_pos h, if_pos h, List.getElem?_eq_getElem (by omega)]
      simp [List.getD, show t < rows.length by omega]
    · rw [if_neg h, if_neg h, List.getElem?_eq_getElem (by omega)]
      simp [List.getD, show t + 1 < rows.length by omega]
  rw [List.getD_eq_getElem?_getD, List.append_assoc]
  by_cases h1 : i < c
  · rw [List.getElem?_append_left (by rw [List.length_take, List.length_map, el]; omega), List.getElem?_take_of_lt h1, at' i (by omega), if_neg (show ¬ i = c by omega), if_pos (show i < spot by omega), if_pos h1]
    rfl
  · have tl : (((rows.eraseIdx spot).map fun r => withoutR r l c).take c).length = c := by rw [List.length_take, List.length_map, el]; omega
    rw [List.getElem?_append_right (by omega), tl]
    by_cases h2 : i = c
    · subst h2
      rw [if_pos rfl, Nat.sub_self]
      rfl
    · rw [if_neg h2, if_neg h1, List.getElem?_append_right (by simp; omega)]
      simp only [List.length_singleton]
      rw [List.getElem?_drop, show c + (i - c - 1) = i - 1 by omega, at' (i - 1) (by omega)]
      by_cases h3 : i ≤ spot
      · rw [if_pos h3, if_pos (by omega)]; rfl
      · rw [if_neg h3, if_neg (by omega), show i - 1 + 1 = i by omega]; rfl
theorem form_clear {rows : List (List Rat)} {spot c n : Nat} (hs : spot < rows.length) (hc : c ≤ spot) (hn : c < n) (hl : ∀ r ∈ rows, n ≤ r.length) (hp : (rows.getD spot []).getD c 0 ≠ 0) (h : Form c rows) : Form (c + 1) (clearR rows spot c) := by
  have gm : ∀ t, t < rows.length → rows.getD t [] ∈ rows := fun t ht => by
    have : rows.getD t [] = rows[t] := by simp [List.getD, ht]
    rw [this]; exact List.getElem_mem ht
  have hfl := hl _ (gm spot hs)
  have hll : n ≤ (leadR (rows.getD spot []) c).length := by unfold leadR; rw [List.length_map]; exact hfl
  have l0 : ∀ j, j < c → (leadR (rows.getD spot []) c).getD j 0 = 0 := fun j hj => by
    rw [lead_at (by omega), h spot hs j hj, if_neg (by omega), Rat.div_def, Rat.zero_mul]
  have l1 : (leadR (rows.getD spot []) c).getD c 0 = 1 := by
    rw [lead_at (by omega), Rat.div_def, Rat.mul_inv_cancel _ hp]
  intro i hi j hj
  rw [len_clear hs hc] at hi
  rw [clear_at hs hc hi]
  by_cases e : i = c
  · rw [if_pos e]
    by_cases ej : j = c
    · rw [ej, l1, if_pos (by omega)]
    · rw [l0 j (by omega), if_neg (by omega)]
  · rw [if_neg e]
    obtain ⟨t, ht, ht2⟩ : ∃ t, (if i < c then i else if i ≤ spot then i - 1 else i) = t ∧ (t < rows.length ∧ (i < c → t = i) ∧ (c < i → c ≤ t)) := ⟨_, rfl, by
      by_cases q1 : i < c
      · rw [if_pos q1]; omega
      · rw [if_neg q1]
        by_cases q2 : i ≤ spot
        · rw [if_pos q2]; omega
        · rw [if_neg q2]; omega⟩
    rw [ht]
    obtain ⟨h1, h2, h3⟩ := ht2
    have htl := hl _ (gm t h1)
    rw [without_at (by omega) (by omega)]
    by_cases ej : j = c
    · rw [ej, l1, Rat.mul_one, if_neg e]; grind
    · rw [l0 j (by omega), h t h1 j (by omega)]
      by_cases hic : i < c
      · rw [h2 hic]; grind
      · have := h3 (by omega)
        rw [if_neg (by omega), if_neg (by omega)]; grind
theorem no_lead {rows : List (List Rat)} {c n : Nat} (hn : c < n) (h : Form c rows) (hz : ∀ i, c ≤ i → i < rows.length → (rows.getD i []).getD c 0 = 0) : ∃ y : Nat → Rat, y c = 1 ∧ Hom n rows y := by
  refine ⟨fun j => if j = c then 1 else if j < c then -(rows.getD j []).getD c 0 else 0, if_pos rfl, fun r hr => ?_⟩
  obtain ⟨i, hi, rfl⟩ := List.getElem_of_mem hr
  have e : rows[i] = rows.getD i [] := by simp [List.getD, hi]
  rw [e]
  unfold lin
  by_cases hic : i < c
  · have split2 : ∀ m, i < m → c < m → sumN m (fun j => (rows.getD i []).getD j 0 * (if j = c then 1 else if j < c then -(rows.getD j []).getD c 0 else 0)) = 0 := by
      intro m hm1 hm2
      have e1 : sumN m (fun j => (rows.getD i []).getD j 0 * (if j = c then 1 else if j < c then -(rows.getD j []).getD c 0 else 0)) =
          sumN m (fun j => (if j = i then -(rows.getD i []).getD c 0 else 0) - (-1) * (if j = c then (rows.getD i []).getD c 0 else 0)) := by
        refine sumN_congr fun j hj => ?_
        by_cases h1 : j = c
        · subst h1
          rw [if_pos rfl, if_neg (by omega), if_pos rfl]; grind
        · rw [if_neg h1, if_neg h1]
          by_cases h2 : j < c
          · rw [if_pos h2, h i hi j h2]
            by_cases h3 : i = j
            · subst h3
              rw [if_pos rfl, if_pos rfl]; grind
            · rw [if_neg h3, if_neg (Ne.symm h3)]; grind
          · rw [if_neg h2, if_neg (by omega)]; grind
      rw [e1, sumN_lin, sumN_one hm1 (fun j _ hj => if_neg hj), sumN_one hm2 (fun j _ hj => if_neg hj), if_pos rfl, if_pos rfl]
      grind
    exact split2 n (by omega) hn
  · refine sumN_zero fun j hj => ?_
    dsimp only
    by_cases h1 : j = c
    · subst h1
      rw [hz i (by omega) hi, Rat.zero_mul]
    · rw [if_neg h1]
      by_cases h2 : j < c
      · rw [if_pos h2, h i hi j h2, if_neg (by omega), Rat.zero_mul]
      · rw [if_neg h2, Rat.mul_zero]
theorem form_lin {rows : List (List Rat)} {n i : Nat} (h : Form n rows) (hi : i < rows.length) (hin : i < n) (y : Nat → Rat) : lin n (rows.getD i []) y = y i := by
  unfold lin
  rw [sumN_one hin fun j hj hji => by rw [h i hi j hj, if_neg (Ne.symm hji), Rat.zero_mul], h i hi i hin, if_pos rfl, Rat.one_mul]
structure RSz (n V A R : Nat) (r : List Rat) : Prop where
  len : r.length = n + 1
  sz : ∃ s : Int, s ≠ 0 ∧ s.natAbs ≤ A ∧ (∀ j, j < n → ∃ v : Int, r.getD j 0 * (s : Rat) = (v : Rat) ∧ v.natAbs ≤ A) ∧ ∃ v : Int, r.getD n 0 * ((s * (V : Int) : Int) : Rat) = (v : Rat) ∧ v.natAbs ≤ R
theorem int_ne {s : Int} (h : s ≠ 0) : (s : Rat) ≠ 0 := fun z => h (Rat.intCast_eq_zero_iff.mp z)
theorem RSz.at {n V A R : Nat} {r : List Rat} (h : RSz n V A R r) {j : Nat} (hj : j < n) : Fm.Sz A (r.getD j 0) := by
  obtain ⟨s, s0, sA, hv, _⟩ := h.sz
  obtain ⟨v, e, vA⟩ := hv j hj
  have := Fm.size_of s0 e
  exact ⟨by omega, by omega⟩
theorem RSz.rhs {n V A R : Nat} {r : List Rat} (h : RSz n V A R r) (hV : 0 < V) : Fm.Sz (A * V + R) (r.getD n 0) := by
  obtain ⟨s, s0, sA, _, v, e, vR⟩ := h.sz
  have hm : s * (V : Int) ≠ 0 := Int.mul_ne_zero s0 (by omega)
  have := Fm.size_of hm e
  have h2 : (s * (V : Int)).natAbs ≤ A * V := by rw [Int.natAbs_mul]; exact Nat.mul_le_mul sA (by omega)
  exact ⟨by omega, by omega⟩
theorem RSz.lead {n V A R c : Nat} {f : List Rat} (h : RSz n V A R f) (hc : c < n) (hp : f.getD c 0 ≠ 0) : RSz n V A R (leadR f c) := by
  have hl := h.len
  obtain ⟨s, s0, sA, hv, w, ew, wR⟩ := h.sz
  obtain ⟨p, ep, pA⟩ := hv c hc
  have sr := int_ne s0
  have p0 : p ≠ 0 := fun z => by
    rw [z] at ep
    rcases Rat.mul_eq_zero.mp ep with q | q
    · exact hp q
    · exact sr q
  refine ⟨by unfold leadR; rw [List.length_map]; exact hl, p, p0, pA, fun j hj => ?_, w, ?_, wR⟩
  · obtain ⟨v, e, vA⟩ := hv j hj
    refine ⟨v, ?_, vA⟩
    rw [lead_at (by omega), Rat.div_def, ← ep, ← e]
    have : (f.getD c 0)⁻¹ * f.getD c 0 = 1 := Rat.inv_mul_cancel _ hp
    grind
  · rw [lead_at (by omega), Rat.div_def, Rat.intCast_mul, ← ep, ← ew, Rat.intCast_mul]
    have : (f.getD c 0)⁻¹ * f.getD c 0 = 1 := Rat.inv_mul_cancel _ hp
    grind
theorem RSz.without {n V A R c : Nat} {r l : List Rat} (hr : RSz n V A R r) (hl : RSz n V A R l) (hc : c < n) : RSz n V (2 * (A * A)) (2 * (A * R)) (withoutR r l c) := by
  obtain ⟨t, t0, tA, hu, u, eu, uR⟩ := hr.sz
  obtain ⟨p, p0, pA, hv, w, ew, wR⟩ := hl.sz
  obtain ⟨uc, euc, ucA⟩ := hu c hc
  have rl := hr.len
  have ll := hl.len
  refine ⟨by unfold withoutR; rw [List.length_zipWith]; omega, t * p, Int.mul_ne_zero t0 p0, ?_, fun j hj => ?_, ?_⟩
  · rw [Int.natAbs_mul]
    have := Nat.mul_le_mul tA pA
    omega
  · obtain ⟨a, ea, aA⟩ := hu j hj
    obtain ⟨b, eb, bA⟩ := hv j hj
    refine ⟨a * p - uc * b, ?_, ?_⟩
    · rw [without_at (by omega) (by omega), Rat.intCast_mul, Rat.intCast_sub, Rat.intCast_mul, Rat.intCast_mul, ← ea, ← eb, ← euc]
      grind
    · have h1 := Nat.mul_le_mul aA pA
      have h2 := Nat.mul_le_mul ucA bA
      have h3 : (a * p - uc * b).natAbs ≤ (a * p).natAbs + (uc * b).natAbs := by omega
      rw [Int.natAbs_mul, Int.natAbs_mul] at h3
      omega
  · refine ⟨u * p - uc * w, ?_, ?_⟩
    · rw [without_at (by omega) (by omega)]
      simp only [Rat.intCast_mul, Rat.intCast_sub] at *
      rw [← eu, ← ew, ← euc]
      grind
    · have h1 := Nat.mul_le_mul pA uR
      have h2 := Nat.mul_le_mul ucA wR
      have h3 : (u * p - uc * w).natAbs ≤ (u * p).natAbs + (uc * w).natAbs := by omega
      rw [Int.natAbs_mul, Int.natAbs_mul, Nat.mul_comm u.natAbs] at h3
      omega
theorem RSz.mono {n V A R A' R' : Nat} {r : List Rat} (h : RSz n V A R r) (ha : A ≤ A') (hr : R ≤ R') : RSz n V A' R' r := by
  obtain ⟨s, s0, sA, hv, w, ew, wR⟩ := h.sz
  refine ⟨h.len, s, s0, by omega, fun j hj => ?_, w, ew, by omega⟩
  obtain ⟨v, e, vA⟩ := hv j hj
  exact ⟨v, e, by omega⟩
noncomputable abbrev encR (r : List Rat) : PyData := .list (r.map fr)
theorem atI_row {rows : List (List Rat)} {k : Int} {j : Nat} (e : k = (j : Int)) (h : j < rows.length) : atI (rows.map encR) k = some (encR (rows.getD j [])) := by
  rw [atI_mk (xs := rows) encR (by omega) (by omega), e, Int.toNat_natCast]
  simp [List.getD, h]
theorem atI_rt {qs : List Rat} {k : Int} {j : Nat} (e : k = (j : Int)) (h : j < qs.length) : atI (qs.map fr) k = some (fr (qs.getD j 0)) := by
  rw [atI_mk (xs := qs) fr (by omega) (by omega), e, Int.toNat_natCast]
  simp [List.getD, h]
theorem row_mem {rows : List (List Rat)} {j : Nat} (h : j < rows.length) : rows.getD j [] ∈ rows := by
  have e : rows.getD j [] = rows[j] := by simp [List.getD, h]
  rw [e]; exact List.getElem_mem h
theorem rat_mem {xs : List Rat} {j : Nat} (h : j < xs.length) : xs.getD j 0 ∈ xs := by
  have e : xs.getD j 0 = xs[j] := by simp [List.getD, h]
  rw [e]; exact List.getElem_mem h
section
variable {P : Program} {w : World} {K : PySem.W.Frag} {mg : Str → Option Value} {base : Heap} {A : Adr}
noncomputable def wSpot (C : Addr) : DW := fun ds Q X => ∃ (rows : List (List Rat)) (c : Nat), ds = [.list (rows.map encR), .int (c : Int)] ∧ rows.length ≤ 60 ∧ c ≤ rows.length ∧ (∀ r ∈ rows, c < r.length) ∧
  (∀ spot : Nat, c ≤ spot → spot < rows.length → (rows.getD spot []).getD c 0 ≠ 0 → Q (.dat (.int (spot : Int)))) ∧ ((∀ i, c ≤ i → i < rows.length → (rows.getD i []).getD c 0 = 0) → X C)
theorem ok_leading_spot (T : Txt K mg A) : FnOk P w K mg base (CXE P w) 1 A.a_leading_spot A.d_leading_spot ["rows", "column"] (spW K (wSpot A.x_NoAnswer)) := by
  refine okW T.F_leading_spot sc_leading_spot (fun ds Q E h => ?_) (fun cdv Ar outer s H E hr => ?_)
  · obtain ⟨_, _, rfl, _⟩ := h; rfl
  refine ⟨_, (pss_cons (ps_setLC (i := 2) (cap := [none, some 1, some 0]) (NC := ["spot", "column", "rows"]) sc_leading_spot.nd rfl rfl rfl ⟨rfl, rfl, by decide +kernel, by decide +kernel, ⟨⟨_, rfl, rfl, rfl, rfl, rfl⟩, ⟨⟨_, rfl, rfl, rfl, rfl, rfl⟩, trivial⟩⟩, (List.forall_mem_cons.2 ⟨rfl, (List.forall_mem_cons.2 ⟨rfl, (fun _ h => nomatch h)⟩)⟩), rfl⟩ (pi_range2 rfl T.n_range (pa_cons (pv 1) (pa_cons (pe_callB (lenK (K := K) rfl) rfl T.n_len PySem.boot_len (pa_cons (pv 0) pa_nil)) pa_nil))) (fun _ _ _ _ => (pg_name (i := 0) (show List.Nodup (["spot", "column", "rows"] : List Str) by decide) rfl (Or.inl rfl))) (fun _ _ _ _ => (pts_one (pt_cmpR (neK (K := K) rfl hr.units) (pe_ix (ixlK (K := K) rfl) (pe_ix (ixlK (K := K) rfl) (pv 2) (pv 0) (fun _ _ => rfl)) (pv 1) (fun _ _ => rfl)) (pe_glob rfl T.c_NOUGHT (show RelV (.ref _) (.ref _) from rfl)) (nomark _)))) (fun _ _ _ _ => (pv 0)))
      (pss_cons (ps_if (pt_cmpR op_eq (pe_callB (lenK (K := K) rfl) rfl T.n_len PySem.boot_len (pa_cons (pv 2) pa_nil)) pe_int (nomark _)) (pss_one (ps_raise T.x_NoAnswer hr.hd pass_own rfl (pa_cons pe_str pa_nil))) pss_nil)
      (pss_one (ps_ret (pe_ix (ixlK (K := K) rfl) (pv 2) pe_int (fun _ _ => rfl)))))), _, (sv_seq (sv_setO 2 (ov_lc (IvS.e (is_rng2 (av_cons (bv_var 1) (av_cons (bv_ev (ev_cb rb_len (av_cons (bv_var 0) av_nil))) av_nil)))) (gv_name 0) (tv_test (bv_ev (ev_op ro_neD (bv_ev (ev_ixl (lv_ev (ev_ixl (lv_var 2) (bv_var 0))) (bv_var 1))) (bv_ev (ev_c T.k_NOUGHT))))) (ev_var 0) (by decide) (by decide)))
      (sv_seq (sv_if (tv_test (bv_ev (ev_op ro_eq (bv_ev (ev_cb rb_len (av_cons (bv_var 2) av_nil))) (bv_ev ev_int)))) (sv_raise (ae_cons ev_str ae_nil) (by decide)) sv_next)
      (sv_ret (bv_ev (ev_ixl (lv_var 2) (bv_ev ev_int)))))), ?_⟩
  rintro ds Q X ⟨rows, c, rfl, hl, hcl, hr', k, kx⟩
  walk_at "s"
  refine lc_map (fun k : Nat => PyData.int ((c : Int) + (k : Int) * 1)) PyData.int (fun k : Nat => if (rows.getD (c + k) []).getD c 0 ≠ 0 then [((c + k : Nat) : Int)] else []) (List.range (rows.length - c)) (by rw [List.length_range]; omega) (fun Q h => by
      walk_at "d"
      refine ⟨by omega, ?_⟩
      rw [show ((rows.length : Int) - (c : Int)).toNat = rows.length - c by omega]; exact h) (fun i hi N acc hN => ?_) ?_
  · have hi2 := List.mem_range.mp hi
    have il : c + i < rows.length := by omega
    have a1 := atI_row (rows := rows) (k := (c : Int) + (i : Int) * 1) (j := c + i) (by omega) il
    have a2 := atI_rt (qs := rows.getD (c + i) []) (k := (c : Int)) (j := c) rfl (hr' _ (row_mem il))
    walk_at "d"
    refine ⟨_, a1, ?_⟩
    walk_at "d"
    refine ⟨_, a2, ?_⟩
    refine ⟨Rat, eRat, (rows.getD (c + i) []).getD c 0, 0, rfl, rfl, fun b hb => ?_⟩
    cases b with
    | true =>
      walk_at "d"
      rw [if_neg (by simpa using hb.mp rfl)] at hN
      simpa using hN
    | false =>
      walk_at "d"
      rw [if_pos (fun z => absurd (hb.mpr z) (by decide))] at hN
      rw [show (c : Int) + (i : Int) * 1 = ((c + i : Nat) : Int) by omega]
      exact hN
  obtain ⟨sp, hsp⟩ : ∃ sp : List Int, (List.range (rows.length - c)).flatMap (fun k : Nat => if (rows.getD (c + k) []).getD c 0 ≠ 0 then [((c + k : Nat) : Int)] else []) = sp := ⟨_, rfl⟩
  rw [hsp]
  have mem : ∀ v ∈ sp, ∃ i : Nat, v = (i : Int) ∧ c ≤ i ∧ i < rows.length ∧ (rows.getD i []).getD c 0 ≠ 0 := fun v hv => by
    rw [← hsp] at hv
    obtain ⟨k, h1, h2⟩ := List.mem_flatMap.mp hv
    have := List.mem_range.mp h1
    split at h2
    · rename_i hne
      have : v = ((c + k : Nat) : Int) := by simpa using h2
      exact ⟨c + k, this, by omega, by omega, hne⟩
    · exact absurd h2 (by simp)
  have nil : sp = [] → ∀ i, c ≤ i → i < rows.length → (rows.getD i []).getD c 0 = 0 := fun h0 i h1 h2 => by
    refine Decidable.not_not.mp fun hne => ?_
    have : ((c + (i - c) : Nat) : Int) ∈ sp := by
      rw [← hsp]
      refine List.mem_flatMap.mpr ⟨i - c, List.mem_range.mpr (by omega), ?_⟩
      rw [show c + (i - c) = i by omega, if_pos hne]
      simp
    rw [h0] at this
    exact absurd this (by simp)
  clear hsp
  walk_at "s"
  cases sp with
  | nil =>
    rw [if_pos (by simp)]
    exact kx (nil rfl)
  | cons v sp =>
    rw [if_neg (by simp; omega)]
    walk_at "d"
    refine ⟨_, atI_nat (j := 0) rfl, ?_⟩
    obtain ⟨i, e, h1, h2, h3⟩ := mem v List.mem_cons_self
    rw [e]
    exact k i h1 h2 h3
noncomputable def wWithout : DW := fun ds Q _ => ∃ (r l : List Rat) (c : Nat), ds = [.list (r.map fr), .list (l.map fr), .int (c : Int)] ∧ c < r.length ∧ r.length ≤ 60 ∧ (∀ q ∈ r, Ok q) ∧ (∀ q ∈ l, Ok q ∧ Ok (r.getD c 0 * q)) ∧ Q (.own ((withoutR r l c).map fr))
theorem ok_without (T : Txt K mg A) : FnOk P w K mg base (CXE P w) 4 A.a_without A.d_without ["row", "leader", "column"] (spW K wWithout) := by
  have G_minus := ok_minus (P := P) (w := w) (base := base) T
  have G_product := ok_product (P := P) (w := w) (base := base) T
  refine okW T.F_without sc_without (fun ds Q E h => ?_) (fun cdv Ar outer s H E hr => ?_)
  · obtain ⟨_, _, _, rfl, _⟩ := h; rfl
  refine ⟨_, (pss_one (ps_ret (pe_lc (cap := [none, none, some 0, some 2]) (NC := ["one", "led", "row", "column"]) rfl ⟨rfl, rfl, by decide +kernel, by decide +kernel, ⟨⟨_, rfl, rfl, rfl, rfl, rfl⟩, ⟨⟨_, rfl, rfl, rfl, rfl, rfl⟩, trivial⟩⟩, (List.forall_mem_cons.2 ⟨rfl, (List.forall_mem_cons.2 ⟨rfl, (fun _ h => nomatch h)⟩)⟩), rfl⟩ (pi_zip (K := K) rfl rfl T.n_zip (pa_cons (pv 0) (pa_cons (pv 1) pa_nil))) (fun _ _ _ _ => (pgtK (K := K) (n := 2) rfl rfl (pgs_cons (pg_name (i := 0) (show List.Nodup (["one", "led", "row", "column"] : List Str) by decide) rfl (Or.inl rfl)) (pgs_cons (pg_name (i := 1) (show List.Nodup (["one", "led", "row", "column"] : List Str) by decide) rfl (Or.inl rfl)) pgs_nil)))) (fun _ _ _ _ => pts_nil) (fun _ _ _ _ => (pe_call G_minus (hr.mono (by decide)) rfl T.m_minus T.F_minus.kp T.b_minus .nil passE0 (pa_cons (pv 0) (pa_cons (pe_call G_product (hr.mono (by decide)) rfl T.m_product T.F_product.kp T.b_product .nil passE0 (pa_cons (pe_ix (ixlK (K := K) rfl) (pv 2) (pv 3) (fun _ _ => rfl)) (pa_cons (pv 1) pa_nil))) pa_nil))))))), _, (sv_retO (ov_lc (ie_zip (lv_var 0) (lv_var 1)) (gv_tup (gs_cons (gv_name 0) (gs_cons (gv_name 1) gs_nil))) tv_yes (ev_call0 (av_cons (bv_var 0) (av_cons (bv_ev (ev_call0 (av_cons (bv_ev (ev_ixl (lv_var 2) (bv_var 3))) (av_cons (bv_var 1) av_nil)))) av_nil))) (by decide) (by decide))), ?_⟩
  rintro ds Q X ⟨r, l, c, rfl, hc, hl, h1, h2, k⟩
  walk_at "d"
  refine lc_map (fun p : Rat × Rat => PyData.tuple [fr p.1, fr p.2]) fr (fun p : Rat × Rat => [p.1 - r.getD c 0 * p.2]) (r.zip l) (by rw [List.length_zip]; omega) (fun Q h => by
      walk_at "d"
      rw [pairD_map]; exact h) (fun p hp N acc hN => ?_) ?_
  · have hh := zip_all h1 h2 p hp
    walk_at "d"
    refine ⟨_, atI_rt rfl hc, _, p.2, rfl, h1 _ (rat_mem hc), hh.2.1, ?_⟩
    walk_at "d"
    refine ⟨p.1, _, rfl, hh.1, hh.2.2, ?_⟩
    walk_at "d"
    exact hN
  · rw [flat_single, zip_map (fun a b : Rat => a - r.getD c 0 * b)]
    exact k
structure RowsDg (n v a r : Nat) (rows : List (List Rat)) : Prop where
  h : ∃ V A R : Nat, 0 < V ∧ V ≤ 10 ^ v ∧ A ≤ 10 ^ a ∧ R ≤ 10 ^ r ∧ ∀ x ∈ rows, RSz n V A R x
theorem row_dg {n v a r V A R : Nat} {x : List Rat} (v0 : 0 < V) (vv : V ≤ 10 ^ v) (aa : A ≤ 10 ^ a) (rr : R ≤ 10 ^ r) (z : RSz n V A R x) {e : Nat} (e1 : a + v + 1 ≤ e) (e2 : r + 1 ≤ e) : ∀ q ∈ x, Dg e q := fun q hq => by
  obtain ⟨j, hj, rfl⟩ := List.getElem_of_mem hq
  have hl := z.len
  have eg : x[j] = x.getD j 0 := by simp [List.getD, hj]
  rw [eg]
  by_cases h : j < n
  · have hz : Dg a (x.getD j 0) := Fm.Sz.mono (z.at h) aa
    exact hz.mono (by omega)
  · have ej : j = n := by omega
    rw [ej]
    refine Fm.Sz.mono (z.rhs v0) ?_
    have h1 : A * V ≤ 10 ^ (a + v) := by rw [Nat.pow_add]; exact Nat.mul_le_mul aa vv
    have h2 : 10 ^ (a + v + 1) ≤ 10 ^ e := ten_le e1
    have h3 : 10 ^ (r + 1) ≤ 10 ^ e := ten_le e2
    rw [Nat.pow_succ] at h2 h3
    generalize 10 ^ (a + v) = X at h1 h2
    generalize 10 ^ r = Y at rr h3
    generalize 10 ^ e = Z at h2 h3 ⊢
    generalize A * V = W at h1 ⊢
    omega
theorem row_dgc {n V A R a : Nat} {x : List Rat} (aa : A ≤ 10 ^ a) (z : RSz n V A R x) {c : Nat} (hc : c < n) : Dg a (x.getD c 0) := Fm.Sz.mono (z.at hc) aa
theorem clear_dg {n v a r c spot : Nat} {rows : List (List Rat)} (h : RowsDg n v a r rows) (hs : spot < rows.length) (hc : c < n) (hp : (rows.getD spot []).getD c 0 ≠ 0) : RowsDg n v (2 * a + 1) (a + r + 1) (clearR rows spot c) := by
  obtain ⟨V, A, R, v0, vv, aa, rr, z⟩ := h.h
  have t1 : 2 * (A * A) ≤ 10 ^ (2 * a + 1) := by
    have := Nat.mul_le_mul aa aa
    have := ten_two a a
    rw [show a + a + 1 = 2 * a + 1 by omega] at this
    omega
  have t2 : 2 * (A * R) ≤ 10 ^ (a + r + 1) := by
    have := Nat.mul_le_mul aa rr
    have := ten_two a r
    omega
  refine ⟨V, 2 * (A * A), 2 * (A * R), v0, vv, t1, t2, fun x hx => ?_⟩
  have zl := (z _ (row_mem hs)).lead hc hp
  have hA : 0 < A := by
    obtain ⟨s, s0, sA, _⟩ := zl.sz
    omega
  rcases mem_clear.mp hx with e | ⟨q, hq, e⟩
  · rw [e]
    refine zl.mono ?_ ?_
    · have := Nat.mul_le_mul hA (Nat.le_refl A); omega
    · have := Nat.mul_le_mul hA (Nat.le_refl R); omega
  · rw [e]
    exact (z q (List.mem_of_mem_eraseIdx hq)).without zl hc
noncomputable def wCleared (C : Addr) : DW := fun ds Q X => ∃ (rows : List (List Rat)) (c n v a r : Nat), ds = [.list (rows.map encR), .int (c : Int)] ∧ rows.length = n ∧ n ≤ 50 ∧ c < n ∧ RowsDg n v a r rows ∧ 2 * a + v + 6 ≤ 2400 ∧ a + r + 6 ≤ 2400 ∧
  (∀ spot : Nat, c ≤ spot → spot < rows.length → (rows.getD spot []).getD c 0 ≠ 0 → Q (.own ((clearR rows spot c).map encR))) ∧ ((∀ i, c ≤ i → i < rows.length → (rows.getD i []).getD c 0 = 0) → X C)
theorem ok_cleared (T : Txt K mg A) : FnOk P w K mg base (CXE P w) 5 A.a_cleared A.d_cleared ["rows", "column"] (spW K (wCleared A.x_NoAnswer)) := by
  have G_leading_spot := ok_leading_spot (P := P) (w := w) (base := base) T
  have G_without := ok_without (P := P) (w := w) (base := base) T
  have G_quotient := ok_quotient (P := P) (w := w) (base := base) T
  refine okW T.F_cleared sc_cleared (fun ds Q E h => ?_) (fun cdv Ar outer s H E hr => ?_)
  · obtain ⟨_, _, _, _, _, _, rfl, _⟩ := h; rfl
  refine ⟨_, (pss_cons (ps_set (i := 2) sc_cleared.nd rfl (Or.inl rfl) (pe_call G_leading_spot (hr.mono (by decide)) rfl T.m_leading_spot T.F_leading_spot.kp T.b_leading_spot .nil pass_own (pa_cons (pv 0) (pa_cons (pv 1) pa_nil))))
      (pss_cons (ps_set (i := 3) sc_cleared.nd rfl (Or.inr rfl) (pe_ix (ixlK (K := K) rfl) (pv 0) (pv 2) (fun _ _ => rfl)))
      (pss_cons (ps_set (i := 4) sc_cleared.nd rfl (Or.inr rfl) (pe_lc (cap := [none, some 3, some 1]) (NC := ["one", "found", "column"]) rfl ⟨rfl, rfl, by decide +kernel, by decide +kernel, ⟨⟨_, rfl, rfl, rfl, rfl, rfl⟩, ⟨⟨_, rfl, rfl, rfl, rfl, rfl⟩, trivial⟩⟩, (List.forall_mem_cons.2 ⟨rfl, (List.forall_mem_cons.2 ⟨rfl, (fun _ h => nomatch h)⟩)⟩), rfl⟩ (pilK (K := K) rfl (pv 3)) (fun _ _ _ _ => (pg_name (i := 0) (show List.Nodup (["one", "found", "column"] : List Str) by decide) rfl (Or.inl rfl))) (fun _ _ _ _ => pts_nil) (fun _ _ _ _ => (pe_call G_quotient (hr.mono (by decide)) rfl T.m_quotient T.F_quotient.kp T.b_quotient .nil passE0 (pa_cons (pv 0) (pa_cons (pe_ix (ixlK (K := K) rfl) (pv 1) (pv 2) (fun _ _ => rfl)) pa_nil))))))
      (pss_cons (ps_setLC (i := 5) (cap := [none, some 4, some 1]) (NC := ["row", "leader", "column"]) sc_cleared.nd rfl rfl rfl ⟨rfl, rfl, by decide +kernel, by decide +kernel, ⟨⟨_, rfl, rfl, rfl, rfl, rfl⟩, ⟨⟨_, rfl, rfl, rfl, rfl, rfl⟩, trivial⟩⟩, (List.forall_mem_cons.2 ⟨rfl, (List.forall_mem_cons.2 ⟨rfl, (fun _ h => nomatch h)⟩)⟩), rfl⟩ (pilK (K := K) rfl (pe_op op_cat (pe_slice (sllK (K := K) rfl) (pv 0) po_none (po_some (pv 2))) (pe_slice (sllK (K := K) rfl) (pv 0) (po_some (pe_op op_add (pv 2) pe_int)) po_none))) (fun _ _ _ _ => (pg_name (i := 0) (show List.Nodup (["row", "leader", "column"] : List Str) by decide) rfl (Or.inl rfl))) (fun _ _ _ _ => pts_nil) (fun _ _ _ _ => (pe_call G_without (hr.mono (by decide)) rfl T.m_without T.F_without.kp T.b_without .nil passE0 (pa_cons (pv 0) (pa_cons (pv 1) (pa_cons (pv 2) pa_nil))))))
      (pss_one (ps_ret (pe_op op_cat (pe_op op_cat (pe_slice (sllK (K := K) rfl) (pv 5) po_none (po_some (pv 1))) (pe_lst (pa_cons (pv 4) pa_nil))) (pe_slice (sllK (K := K) rfl) (pv 5) (po_some (pv 1)) po_none)))))))), _, (sv_seq (sv_asg (ev_call (av_cons (bv_var 0) (av_cons (bv_var 1) av_nil))) (gv_name 2))
      (sv_seq (sv_asg (ev_ixl (lv_var 0) (bv_var 2)) (gv_name 3))
      (sv_seq (sv_setO 4 (ov_lc (ie_list (lv_var 3)) (gv_name 0) tv_yes (ev_call0 (av_cons (bv_var 0) (av_cons (bv_ev (ev_ixl (lv_var 1) (bv_var 2))) av_nil))) (by decide) (by decide)))
      (sv_seq (sv_setO 5 (ov_lc (ie_list (lv_ov (ov_cat (mv_ov (ov_sl (lv_var 0) op_no (op_part (bv_var 2)))) (mv_ov (ov_sl (lv_var 0) (op_part (bv_ev (ev_op ro_i0 (bv_var 2) (bv_ev ev_int)))) op_no))))) (gv_name 0) tv_yes (ev_ov (ov_call0 (av_cons (bv_var 0) (av_cons (bv_var 1) (av_cons (bv_var 2) av_nil))))) (by decide) (by decide)))
      (sv_frz 4 (sv_retO (ov_cat (mv_ov (ov_cat (mv_ov (ov_sl (lv_var 5) op_no (op_part (bv_var 1)))) (mv_ov (ov_lst (ae_cons (ev_var 4) ae_nil) (by decide))))) (mv_ov (ov_sl (lv_var 5) (op_part (bv_var 1)) op_no))))))))), ?_⟩
  rintro ds Q X ⟨rows, c, n, v, a, r, rfl, hl, hn, hc, hd, f1, f2, k, kx⟩
  obtain ⟨V, A, R, v0, vv, aa, rr, z⟩ := hd.h
  have len : ∀ x ∈ rows, x.length = n + 1 := fun x hx => (z x hx).len
  walk_at "s"
  refine ⟨rows, c, rfl, by omega, by omega, fun x hx => by have := len x hx; omega, fun spot s1 s2 hp => ?_, kx⟩
  have kq := k spot s1 s2 hp
  walk_at "d"
  walk_at "s"
  refine ⟨_, atI_row rfl s2, ?_⟩
  have zf := z _ (row_mem s2)
  have lf := len _ (row_mem s2)
  have zl := zf.lead hc hp
  obtain ⟨e, he1, he2, he3, he4⟩ : ∃ e, a + v + 1 ≤ e ∧ r + 1 ≤ e ∧ e ≤ 2400 ∧ a + e + 1 ≤ 2400 := by
    by_cases q : a + v ≤ r
    · exact ⟨r + 1, by omega, by omega, by omega, by omega⟩
    · exact ⟨a + v + 1, by omega, by omega, by omega, by omega⟩
  have dl := row_dg v0 vv aa rr zl he1 he2
  unfold clearR at kq
  dsimp only at kq
  generalize rows.getD spot [] = f at hp kq zf lf zl dl ⊢
  have lef : leadR f c = f.map fun q => q / f.getD c 0 := rfl
  generalize leadR f c = l at kq zl dl lef
  walk_at "s"
  refine lc_map fr fr (fun q : Rat => [q / f.getD c 0]) f (by omega) (fun Q h => h) (fun q hq N acc hN => ?_) ?_
  · walk_at "d"
    refine ⟨_, atI_rt rfl (by omega), q, _, rfl, dgOk (row_dg v0 vv aa rr zf he1 he2 q hq) he3, dgOk (row_dgc aa zf hc) (by omega), fun h0 => absurd h0 hp, fun _ => ?_⟩
    walk_at "d"
    exact hN
  rw [flat_single, ← lef]
  clear lef
  walk_at "s"
  have sub : ∀ x ∈ rows.take spot ++ rows.drop (spot + 1), x ∈ rows := fun x hx => by
    rcases List.mem_append.mp hx with y | y
    · exact List.mem_of_mem_take y
    · exact List.mem_of_mem_drop y
  have cut2 : cutL (rows.map encR) none (some (spot : Int)) ++ cutL (rows.map encR) (some ((spot : Int) + 1)) none = (rows.take spot ++ rows.drop (spot + 1)).map encR := by
    rw [cutL_map, cutL_map, cutL_hi, show (spot : Int) + 1 = ((spot + 1 : Nat) : Int) by omega, cutL_lo, List.map_append]
  have cl : (cutL (rows.map encR) none (some (spot : Int))).length + (cutL (rows.map encR) (some ((spot : Int) + 1)) none).length ≤ 1000 := by
    rw [← List.length_append, cut2, List.length_map, List.length_append, List.length_take, List.length_drop]; omega
  refine lc_map encR encR (fun x : List Rat => [withoutR x l c]) (rows.take spot ++ rows.drop (spot + 1)) (by rw [List.length_append, List.length_take, List.length_drop]; omega) (fun Q h => by
      walk_at "d"
      refine ⟨cl, ?_⟩
      rw [cut2]; exact h) (fun x hx N acc hN => ?_) ?_
  · have zx := z x (sub x hx)
    have lx := len x (sub x hx)
    walk_at "d"
    refine ⟨x, l, c, rfl, by omega, by omega, fun q hq => dgOk (row_dg v0 vv aa rr zx he1 he2 q hq) he3, fun q hq => ⟨dgOk (dl q hq) he3, dgOk ((row_dgc aa zx hc).mul (dl q hq)) he4⟩, ?_⟩
    walk_at "d"
    exact ⟨frs_flat _, hN⟩
  rw [flat_single]
  obtain ⟨o, ho⟩ : ∃ o, (rows.take spot ++ rows.drop (spot + 1)).map (fun x => withoutR x l c) = o := ⟨_, rfl⟩
  rw [ho] at kq
  rw [ho]
  have ol : o.length ≤ 60 := by rw [← ho, List.length_map, List.length_append, List.length_take, List.length_drop]; omega
  walk_at "d"
  rw [cutL_map, cutL_map, cutL_hi, cutL_lo]
  refine ⟨by simp only [List.length_map, List.length_take]; omega, by simp only [List.length_append, List.length_map, List.length_take, List.length_drop, List.length_singleton]; omega, ?_⟩
  rw [List.map_append, List.map_append] at kq
  exact kq
end
noncomputable def grA (a : Nat) : Nat → Nat
  | 0 => a
  | k + 1 => 2 * grA a k + 1
noncomputable def grR (a r : Nat) : Nat → Nat
  | 0 => r
  | k + 1 => grA a k + grR a r k + 1
theorem grA_le (a : Nat) : ∀ {k n : Nat}, k ≤ n → grA a k ≤ grA a n
  | k, 0, h => by rw [Nat.le_zero.mp h]; exact Nat.le_refl _
  | k, n + 1, h => by
    by_cases e : k = n + 1
    · rw [e]; exact Nat.le_refl _
    · have := grA_le a (k := k) (n := n) (by omega)
      simp only [grA]; omega
theorem grR_le (a r : Nat) : ∀ {k n : Nat}, k ≤ n → grR a r k ≤ grR a r n
  | k, 0, h => by rw [Nat.le_zero.mp h]; exact Nat.le_refl _
  | k, n + 1, h => by
    by_cases e : k = n + 1
    · rw [e]; exact Nat.le_refl _
    · have := grR_le a r (k := k) (n := n) (by omega)
      simp only [grR]; omega
noncomputable def augR (table : List (List Rat)) (right : List Rat) : List (List Rat) := List.zipWith (fun r v => r ++ [v]) table right
theorem clear_len {rows : List (List Rat)} {spot c m : Nat} (hs : spot < rows.length) (h : ∀ x ∈ rows, x.length = m) : ∀ x ∈ clearR rows spot c, x.length = m := fun x hx => by
  rcases mem_clear.mp hx with e | ⟨q, hq, e⟩
  · rw [e]; unfold leadR; rw [List.length_map]; exact h _ (row_mem hs)
  · rw [e]; unfold withoutR leadR
    rw [List.length_zipWith, List.length_map, h q (List.mem_of_mem_eraseIdx hq), h _ (row_mem hs)]; omega
section
variable {P : Program} {w : World} {K : PySem.W.Frag} {mg : Str → Option Value} {base : Heap} {A : Adr}
noncomputable def wSolved (C : Addr) : DW := fun ds Q X => ∃ (table : List (List Rat)) (right : List Rat) (n v a r : Nat), ds = [.list (table.map encR), .list (right.map fr)] ∧ table.length = n ∧ right.length = n ∧ n ≤ 50 ∧ (∀ x ∈ table, x.length = n) ∧ RowsDg n v a r (augR table right) ∧ grA a n + v + 6 ≤ 2400 ∧ grR a r n + 6 ≤ 2400 ∧
  ((∃ y : Nat → Rat, (∃ j, j < n ∧ y j ≠ 0) ∧ Hom n (augR table right) y) → X C) ∧
  ∀ x : List Rat, x.length = n → (∀ q ∈ x, Dg (grA a n + v + grR a r n + 2) q) → Hom (n + 1) (augR table right) (fun j => if j < n then x.getD j 0 else -1) → (∀ y : Nat → Rat, Hom n (augR table right) y → ∀ j, j < n → y j = 0) → Q (.own (x.map fr))
theorem ok_solved (T : Txt K mg A) : FnOk P w K mg base (CXE P w) 6 A.a_solved A.d_solved ["table", "right"] (spW K (wSolved A.x_NoAnswer)) := by
  have G_cleared := ok_cleared (P := P) (w := w) (base := base) T
  refine okW T.F_solved sc_solved (fun ds Q E h => ?_) (fun cdv Ar outer s H E hr => ?_)
  · obtain ⟨_, _, _, _, _, _, rfl, _⟩ := h; rfl
  refine ⟨_, (pss_cons (ps_setLC (i := 2) (cap := [none, none]) (NC := ["row", "value"]) sc_solved.nd rfl rfl rfl ⟨rfl, rfl, by decide +kernel, by decide +kernel, trivial, (fun _ h => nomatch h), rfl⟩ (pi_zip (K := K) rfl rfl T.n_zip (pa_cons (pv 0) (pa_cons (pv 1) pa_nil))) (fun _ _ _ _ => (pgtK (K := K) (n := 2) rfl rfl (pgs_cons (pg_name (i := 0) (show List.Nodup (["row", "value"] : List Str) by decide) rfl (Or.inl rfl)) (pgs_cons (pg_name (i := 1) (show List.Nodup (["row", "value"] : List Str) by decide) rfl (Or.inl rfl)) pgs_nil)))) (fun _ _ _ _ => pts_nil) (fun _ _ _ _ => (pe_op op_cat (pe_callTy (listK (K := K) rfl) rfl T.n_list bt_list (pa_cons (pv 0) pa_nil)) (pe_lst (pa_cons (pv 1) pa_nil)))))
      (pss_cons (ps_for PassesOwn.leaving rfl (pi_range1 rfl T.n_range (pa_cons (pe_callB (lenK (K := K) rfl) rfl T.n_len PySem.boot_len (pa_cons (pv 1) pa_nil)) pa_nil)) (pg_name (i := 3) sc_solved.nd rfl (Or.inl rfl))
        (pss_one (ps_set (i := 2) sc_solved.nd rfl (Or.inl rfl) (pe_call G_cleared (hr.mono (by decide)) rfl T.m_cleared T.F_cleared.kp T.b_cleared .nil pass_own (pa_cons (pv 2) (pa_cons (pv 3) pa_nil))))))
      (pss_one (ps_ret (pe_lc (cap := [none]) (NC := ["row"]) rfl ⟨rfl, rfl, by decide +kernel, by decide +kernel, trivial, (fun _ h => nomatch h), rfl⟩ (pilK (K := K) rfl (pv 2)) (fun _ _ _ _ => (pg_name (i := 0) (show List.Nodup (["row"] : List Str) by decide) rfl (Or.inl rfl))) (fun _ _ _ _ => pts_nil) (fun _ _ _ _ => (pe_ix (ixlK (K := K) rfl) (pv 0) (pe_un un_neg pe_int) (fun _ _ => rfl)))))))), _, (sv_seq (sv_setO 2 (ov_lc (ie_zip (lv_var 0) (lv_var 1)) (gv_tup (gs_cons (gv_name 0) (gs_cons (gv_name 1) gs_nil))) tv_yes (ev_ov (ov_cat (mv_ov (ov_list (lv_var 0))) (mv_ov (ov_lst (ae_cons (ev_var 1) ae_nil) (by decide))))) (by decide) (by decide)))
      (sv_seq (sv_frz 2 (sv_for (is_rng1 (av_cons (bv_ev (ev_cb rb_len (av_cons (bv_var 1) av_nil))) av_nil)) (gv_name 3)
        (sv_asgN (av_cons (bv_var 2) (av_cons (bv_var 3) av_nil)) (gv_name 2))))
      (sv_retO (ov_lc (ie_list (lv_var 2)) (gv_name 0) tv_yes (ev_ixl (lv_var 0) (bv_ev (ev_k (v := (-1)) (ev_neg (bv_ev ev_int)) (fun ex δ Q h => Eq.mpr (congrArg (fun z => Q (.int z)) (by decide +kernel : ((-1) : Int) = -1)) h)))) (by decide) (by decide))))), ?_⟩
  rintro ds Q X ⟨table, right, n, v, a, r, rfl, htl, hrl, hn, hlen, hd, f1, f2, kx, k⟩
  walk_at "s"
  refine lc_map (fun p : List Rat × Rat => PyData.tuple [encR p.1, fr p.2]) encR (fun p : List Rat × Rat => [p.1 ++ [p.2]]) (table.zip right) (by rw [List.length_zip]; omega) (fun Q h => by
      walk_at "d"
      rw [pairD_map]; exact h) (fun p hp N acc hN => ?_) ?_
  · have := (zip_all (p := fun x : List Rat => x.length = n) (q := fun _ => True) hlen (fun _ _ => trivial) p hp).1
    walk_at "d"
    refine ⟨by omega, ?_⟩
    have hN2 : N (acc ++ [PyData.list ((p.1 ++ [p.2]).map fr)]) := hN
    rw [List.map_append] at hN2
    exact hN2
  rw [flat_single, zip_map (fun (r : List Rat) (v : Rat) => r ++ [v])]
  obtain ⟨rows0, h0⟩ : ∃ rows0, augR table right = rows0 := ⟨_, rfl⟩
  have h0' : List.zipWith (fun (r : List Rat) (v : Rat) => r ++ [v]) table right = rows0 := h0
  rw [h0']
  rw [h0] at hd kx k
  have l0 : rows0.length = n := by rw [← h0]; unfold augR; rw [List.length_zipWith]; omega
  have len0 : ∀ x ∈ rows0, x.length = n + 1 := by
    rw [← h0]
    unfold augR
    exact zipWith_all (p := fun x : List Rat => x.length = n) (q := fun _ => True) hlen (fun _ _ => trivial) fun x y hx _ => by simp [hx]
  clear h0' h0
  refine seq_mk ?_
  show dFrz 2 _ _ _
  unfold dFrz
  walk_at "d"
  refine for_rng (lo := 0) (st := 1) (n := n) (fun Q h => by
      walk_at "d"
      refine ⟨by omega, ?_⟩
      rw [hrl, Int.toNat_natCast]; exact h)
    (fun i δ => ∃ (rows : List (List Rat)) (s1 : Option PyData), δ = [some (.dat (.list (table.map encR))), some (.dat (.list (right.map fr))), some (.dat (.list (rows.map encR))), s1.map Sl.dat] ∧ rows.length = n ∧ (∀ x ∈ rows, x.length = n + 1) ∧ Form i rows ∧ RowsDg n v (grA a i) (grR a r i) rows ∧ ∀ m, m ≤ n + 1 → ∀ y, Hom m rows y ↔ Hom m rows0 y)
    ⟨rows0, none, rfl, l0, len0, fun i _ j hj => absurd hj (Nat.not_lt_zero _), hd, fun _ _ _ => Iff.rfl⟩ ?_ ?_
  · rintro i δ hi ⟨rows, s1, rfl, hl, hlr, hform, hdg, hhom⟩
    have g1 := grA_le a (k := i + 1) (n := n) (by omega)
    have g2 := grR_le a r (k := i + 1) (n := n) (by omega)
    simp only [grA] at g1
    simp only [grR] at g2
    rw [show (0 : Int) + (i : Int) * 1 = (i : Int) by omega]
    walk_at "d"
    refine ⟨rows, i, n, v, grA a i, grR a r i, rfl, hl, hn, hi, hdg, by omega, by omega, fun spot s1 s2 hp => ?_, fun hz => ?_⟩
    · walk_at "d"
      refine ⟨clearR rows spot i, some _, rfl, by rw [len_clear s2 s1, hl], clear_len s2 hlr, form_clear (n := n) s2 s1 hi (fun x hx => by have := hlr x hx; omega) hp hform, clear_dg hdg s2 hi hp, fun m hm y => ?_⟩
      rw [hom_clear s2 (fun x hx => by have := hlr x hx; omega) hp]
      exact hhom m hm y
    · obtain ⟨y, y1, hy⟩ := no_lead hi hform hz
      exact kx ⟨y, ⟨i, hi, by rw [y1]; decide⟩, (hhom n (by omega) y).mp hy⟩
  rintro δ ⟨rows, s1, rfl, hl, hlr, hform, hdg, hhom⟩
  walk_at "d"
  refine lc_map encR fr (fun x : List Rat => [x.getD n 0]) rows (by omega) (fun Q h => h) (fun x hx N acc hN => ?_) ?_
  · have lx := hlr x hx
    have al : atI (x.map fr) (-1) = some (fr (x.getD n 0)) := by
      unfold atI ixN
      rw [if_neg (by decide), if_pos (by rw [List.length_map]; omega), List.length_map]
      simp only [Option.bind_some]
      rw [show ((-1 : Int) + (x.length : Int)).toNat = n by omega, List.getElem?_map, List.getElem?_eq_getElem (by omega)]
      simp [List.getD, show n < x.length by omega]
    walk_at "d"
    exact ⟨_, al, hN⟩
  rw [flat_single]
  have getx : ∀ i, i < n → (rows.map fun x => x.getD n 0).getD i 0 = (rows.getD i []).getD n 0 := fun i hi => by
    simp [List.getD, show i < rows.length by omega]
  refine k (rows.map fun x => x.getD n 0) (by rw [List.length_map]; exact hl) (fun q hq => ?_) ?_ ?_
  · obtain ⟨x, hx, rfl⟩ := List.mem_map.mp hq
    obtain ⟨V, A', R, v0, vv, aa, rr, z⟩ := hdg.h
    have := row_dg v0 vv aa rr (z x hx) (e := grA a n + v + grR a r n + 2) (by omega) (by omega)
    exact this _ (rat_mem (by have := hlr x hx; omega))
  · refine (hhom (n + 1) (Nat.le_refl _) _).mp fun x hx => ?_
    obtain ⟨i, hi, rfl⟩ := List.getElem_of_mem hx
    have e : rows[i] = rows.getD i [] := by simp [List.getD, hi]
    rw [e]
    have f := form_lin hform hi (by omega) (fun j => if j < n then (rows.map fun x => x.getD n 0).getD j 0 else -1)
    unfold lin at f ⊢
    rw [sumN, f, if_pos (by omega)]
    dsimp only
    rw [if_neg (Nat.lt_irrefl n), getx i (by omega)]
    grind
  · intro y hy j hj
    have hy2 := (hhom n (by omega) y).mpr hy
    have := hy2 _ (row_mem (show j < rows.length by omega))
    rw [form_lin hform (by omega) hj] at this
    exact this
end
noncomputable def pows (x : Rat) : Nat → List Rat
  | 0 => []
  | n + 1 => pows x n ++ [x ^ n]
theorem pows_len (x : Rat) : ∀ n, (pows x n).length = n
  | 0 => rfl
  | n + 1 => by rw [pows, List.length_append, pows_len x n]; rfl
theorem pows_at (x : Rat) : ∀ {n j : Nat}, j < n → (pows x n).getD j 0 = x ^ j
  | n + 1, j, h => by
    rw [pows, List.getD_eq_getElem?_getD]
    by_cases e : j < n
    · rw [List.getElem?_append_left (by rw [pows_len]; exact e), ← List.getD_eq_getElem?_getD]
      exact pows_at x e
    · have ej : j = n := by omega
      subst ej
      rw [List.getElem?_append_right (by rw [pows_len]; exact Nat.le_refl _), pows_len, Nat.sub_self]
      rfl
section
variable {P : Program} {w : World} {K : PySem.W.Frag} {mg : Str → Option Value} {base : Heap} {A : Adr}
noncomputable def wPows : DW := fun ds Q _ => ∃ (x : Rat) (n b : Nat), ds = [fr x, .int (n : Int)] ∧ n ≤ 8 ∧ Dg b x ∧ 8 * (b + 1) ≤ 2400 ∧ Q (.own ((pows x n).map fr))
theorem ok_powers_of (T : Txt K mg A) : FnOk P w K mg base (CXE P w) 4 A.a_powers_of A.d_powers_of ["x", "count"] (spW K wPows) := by
  have G_product := ok_product (P := P) (w := w) (base := base) T
  refine okW T.F_powers_of sc_powers_of (fun ds Q E h => ?_) (fun cdv Ar outer s H E hr => ?_)
  · obtain ⟨_, _, _, rfl, _⟩ := h; rfl
  refine ⟨_, (pss_cons (ps_set (i := 2) sc_powers_of.nd rfl (Or.inl rfl) (pe_lst pa_nil))
      (pss_cons (ps_set (i := 3) sc_powers_of.nd rfl (Or.inl rfl) (pe_tup (pa_cons pe_int (pa_cons pe_int pa_nil))))
      (pss_cons (ps_for PassesOwn.leaving rfl (pi_range1 rfl T.n_range (pa_cons (pv 1) pa_nil)) (pg_name (i := 4) sc_powers_of.nd rfl (Or.inl rfl))
        (pss_cons (ps_expr (pe_bm PySem.F.plainAttrs_list PySem.F.slot_list_append PySem.F.type_list_append mt_append (pv 2) (pa_cons (pv 3) pa_nil)))
      (pss_one (ps_set (i := 3) sc_powers_of.nd rfl (Or.inl rfl) (pe_call G_product (hr.mono (by decide)) rfl T.m_product T.F_product.kp T.b_product .nil passE0 (pa_cons (pv 3) (pa_cons (pv 0) pa_nil)))))))
      (pss_one (ps_ret (pv 2)))))), _, (sv_seq (sv_setO 2 (ov_lst ae_nil (by decide)))
      (sv_seq (sv_asg (ev_tup (ae_cons ev_int (ae_cons ev_int ae_nil)) (by decide)) (gv_name 3))
      (sv_seq (sv_for (is_rng1 (av_cons (bv_var 1) av_nil)) (gv_name 4)
        (sv_seq (sv_app 2 (ev_var 3))
      (sv_asg (ev_call0 (av_cons (bv_var 3) (av_cons (bv_var 0) av_nil))) (gv_name 3))))
      (sv_retV 2)))), ?_⟩
  rintro ds Q X ⟨x, n, b, rfl, hn, hb, hf, k⟩
  walk_at "s"
  walk_at "s"
  refine seq_mk (for_rng (lo := 0) (st := 1) (n := n) (fun Q h => by
      walk_at "d"
      refine ⟨by omega, ?_⟩
      rw [Int.toNat_natCast]; exact h)
    (fun i δ => ∃ s1 : Option Sl, δ = [some (.dat (fr x)), some (.dat (.int (n : Int))), some (.own ((pows x i).map fr)), some (.dat (fr (x ^ i))), s1] ∧ Dg (i * (b + 1)) (x ^ i))
    ⟨_, by rw [Rat.pow_zero]; rfl, by rw [Rat.pow_zero]; exact Dg.one⟩ ?_ ?_)
  · rintro i δ hi ⟨s1, rfl, hd⟩
    have i8 : i * (b + 1) ≤ 7 * (b + 1) := Nat.mul_le_mul_right _ (by omega)
    walk_at "s"
    refine ⟨by rw [pows_len]; omega, ?_⟩
    walk_at "d"
    refine ⟨_, x, rfl, dgOk hd (by omega), dgOk hb (by omega), ?_⟩
    walk_at "d"
    rw [Rat.pow_succ]
    refine ⟨_, by rw [pows, List.map_append]; rfl, (hd.mul hb).mono (by rw [Nat.add_mul]; omega)⟩
  · rintro δ ⟨s1, rfl, hd⟩
    walk_at "d"
    exact k
end
noncomputable def hgt (ns : List Rat) (x : Rat) : Rat := ns.reverse.foldl (fun h n => h * x + n) 0
theorem hgt_nil (x : Rat) : hgt [] x = 0 := rfl
theorem hgt_cons (n : Rat) (ns : List Rat) (x : Rat) : hgt (n :: ns) x = hgt ns x * x + n := by
  unfold hgt
  rw [List.reverse_cons, List.foldl_append]
  rfl
theorem hgt_snoc (l : List Rat) (c x : Rat) : hgt (l ++ [c]) x = hgt l x + c * x ^ l.length := by
  induction l with
  | nil => rw [List.nil_append, hgt_cons, hgt_nil, List.length_nil, Rat.pow_zero]; grind
  | cons a l ih => rw [List.cons_append, hgt_cons, hgt_cons, ih, List.length_cons, Rat.pow_succ]; grind
theorem lin_pows (x : Rat) (y : Nat → Rat) : ∀ n m, n ≤ m → lin n (pows x m) y = hgt ((List.range n).map y) x
  | 0, m, _ => rfl
  | n + 1, m, h => by
    have ih := lin_pows x y n m (by omega)
    unfold lin at ih ⊢
    rw [sumN, ih, List.range_succ, List.map_append, List.map_cons, List.map_nil, hgt_snoc, List.length_map, List.length_range, pows_at x (by omega)]
    grind
noncomputable def qt (x0 : Rat) : List Rat → List Rat
  | [] => []
  | [_] => []
  | _ :: m :: ms => hgt (m :: ms) x0 :: qt x0 (m :: ms)
theorem qt_len (x0 : Rat) : ∀ (n : Rat) (ns : List Rat), (qt x0 (n :: ns)).length = ns.length
  | _, [] => rfl
  | n, m :: ms => by
    rw [qt, List.length_cons, qt_len x0 m ms, List.length_cons]
theorem qt_eq (x0 x : Rat) : ∀ (n : Rat) (ns : List Rat), hgt (n :: ns) x = (x - x0) * hgt (qt x0 (n :: ns)) x + hgt (n :: ns) x0
  | n, [] => by rw [qt, hgt_cons, hgt_cons, hgt_nil, hgt_nil]; grind
  | n, m :: ms => by
    have ih := qt_eq x0 x m ms
    rw [qt, hgt_cons n, hgt_cons n, hgt_cons (hgt (m :: ms) x0), ih]
    grind
theorem hgt_zeros {x : Rat} : ∀ {l : List Rat}, (∀ c ∈ l, c = 0) → hgt l x = 0
  | [], _ => rfl
  | a :: l, h => by
    rw [hgt_cons, hgt_zeros fun c hc => h c (List.mem_cons_of_mem _ hc), h a List.mem_cons_self]
    grind
theorem qt_zero (x0 : Rat) : ∀ (n : Rat) (ns : List Rat), (∀ c ∈ qt x0 (n :: ns), c = 0) → ∀ c ∈ ns, c = 0
  | _, [], _, c, h => absurd h (by simp)
  | n, m :: ms, hq, c, h => by
    rw [qt] at hq
    have h1 := hq _ List.mem_cons_self
    have ih := qt_zero x0 m ms fun c hc => hq c (List.mem_cons_of_mem _ hc)
    have h2 : hgt ms x0 = 0 := hgt_zeros ih
    rw [hgt_cons, h2] at h1
    rcases List.mem_cons.mp h with rfl | h
    · grind
    · exact ih c h
theorem roots : ∀ (k : Nat) (l xs : List Rat), l.length = k → xs.length = k → xs.Nodup → (∀ x ∈ xs, hgt l x = 0) → ∀ c ∈ l, c = 0
  | 0, l, _, hl, _, _, _, c, hc => by rw [List.length_eq_zero_iff.mp hl] at hc; exact absurd hc (by simp)
  | k + 1, n :: ns, x0 :: xs, hl, hx, hnd, hz, c, hc => by
    have h0 := hz x0 List.mem_cons_self
    have hnd2 := List.nodup_cons.mp hnd
    have ih := roots k (qt x0 (n :: ns)) xs (by rw [qt_len]; simpa using hl) (by simpa using hx) hnd2.2 fun x hx2 => by
      have e := qt_eq x0 x n ns
      rw [hz x (List.mem_cons_of_mem _ hx2), h0, Rat.add_zero] at e
      rcases Rat.mul_eq_zero.mp e.symm with z | z
      · exfalso
        have : x = x0 := by grind
        rw [this] at hx2
        exact hnd2.1 hx2
      · exact z
    have hns := qt_zero x0 n ns ih
    have hn : n = 0 := by
      rw [hgt_cons, hgt_zeros hns] at h0
      grind
    rcases List.mem_cons.mp hc with rfl | h
    · exact hn
    · exact hns c h
  | k + 1, [], _, hl, _, _, _, _, _ => by simp at hl
  | k + 1, _ :: _, [], _, hx, _, _, _, _ => by simp at hx
theorem aug_eq (ms : List Mk) (n : Nat) : augR (ms.map fun m => pows m.1 n) (ms.map (·.2.1)) = ms.map fun m => pows m.1 n ++ [m.2.1] := by
  unfold augR
  rw [List.zipWith_map, List.zipWith_self]
theorem prod_den {ms : List Mk} {bh : Nat} (h : ∀ m ∈ ms, Dg bh m.2.1) : 0 < (ms.map fun m => m.2.1.den).prod ∧ (ms.map fun m => m.2.1.den).prod ≤ 10 ^ (bh * ms.length) ∧ ∀ m ∈ ms, m.2.1.den ∣ (ms.map fun m => m.2.1.den).prod := by
  induction ms with
  | nil => exact ⟨by decide, by simp, fun _ h => nomatch h⟩
  | cons m ms ih =>
    obtain ⟨h1, h2, h3⟩ := ih fun x hx => h x (List.mem_cons_of_mem _ hx)
    have hd := (h m List.mem_cons_self).d
    simp only [List.map_cons, List.prod_cons, List.length_cons]
    refine ⟨Nat.mul_pos (Nat.pos_of_ne_zero m.2.1.den_nz) h1, ?_, fun x hx => ?_⟩
    · rw [Nat.mul_add, Nat.mul_one, Nat.add_comm, Nat.pow_add]
      exact Nat.mul_le_mul hd h2
    · rcases List.mem_cons.mp hx with rfl | hx
      · exact ⟨_, rfl⟩
      · exact Nat.dvd_trans (h3 x hx) ⟨m.2.1.den, Nat.mul_comm _ _⟩
theorem pow_num (x : Rat) : ∀ j : Nat, ((x.num ^ j : Int) : Rat) = x ^ j * ((x.den : Nat) : Rat) ^ j
  | 0 => by rw [Int.pow_zero, Rat.pow_zero, Rat.pow_zero, Rat.mul_one]; rfl
  | j + 1 => by
    rw [Int.pow_succ, Rat.intCast_mul, pow_num x j, Fm.num_eq x, Rat.pow_succ, Rat.pow_succ]
    grind
theorem ipow_cast (d : Nat) : ∀ j : Nat, (((d : Int) ^ j : Int) : Rat) = ((d : Nat) : Rat) ^ j
  | 0 => by rw [Int.pow_zero, Rat.pow_zero]; rfl
  | j + 1 => by rw [Int.pow_succ, Rat.intCast_mul, ipow_cast d j, Rat.pow_succ, Rat.intCast_natCast]
theorem rpow_add (x : Rat) (a : Nat) : ∀ b : Nat, x ^ (a + b) = x ^ a * x ^ b
  | 0 => by rw [Nat.add_zero, Rat.pow_zero, Rat.mul_one]
  | b + 1 => by rw [← Nat.add_assoc, Rat.pow_succ, rpow_add x a b, Rat.pow_succ]; grind
theorem vander_dg {ms : List Mk} {bx bh n : Nat} (hn : ms.length = n) (n4 : n ≤ 4) (hx : ∀ m ∈ ms, Dg bx m.1) (hh : ∀ m ∈ ms, Dg bh m.2.1) : RowsDg n (4 * bh) (3 * bx) (5 * bh + 3 * bx) (augR (ms.map fun m => pows m.1 n) (ms.map (·.2.1))) := by
  obtain ⟨v0, v1, v2⟩ := prod_den hh
  have v4 : (ms.map fun m => m.2.1.den).prod ≤ 10 ^ (4 * bh) := Nat.le_trans v1 (ten_le (by rw [Nat.mul_comm]; exact Nat.mul_le_mul_right _ (by omega)))
  refine ⟨(ms.map fun m => m.2.1.den).prod, 10 ^ (3 * bx), 10 ^ (5 * bh + 3 * bx), v0, v4, Nat.le_refl _, Nat.le_refl _, fun r hr => ?_⟩
  rw [aug_eq] at hr
  obtain ⟨m, hm, rfl⟩ := List.mem_map.mp hr
  have dx := hx m hm
  have dh := hh m hm
  obtain ⟨c, hc⟩ := v2 m hm
  have xd := Fm.den_pos m.1
  have hd3 : ((m.1.den : Int) ^ 3).natAbs ≤ 10 ^ (3 * bx) := by
    rw [Int.natAbs_pow, Nat.mul_comm, Nat.pow_mul]
    exact Nat.pow_le_pow_left (by have := dx.d; omega) 3
  have pl : (pows m.1 n).length = n := pows_len _ _
  refine ⟨by rw [List.length_append, pl]; rfl, (m.1.den : Int) ^ 3, Int.pow_ne_zero (by omega), hd3, fun j hj => ?_, m.2.1.num * (c : Int) * (m.1.den : Int) ^ 3, ?_, ?_⟩
  · refine ⟨m.1.num ^ j * (m.1.den : Int) ^ (3 - j), ?_, ?_⟩
    · have e1 : (pows m.1 n ++ [m.2.1]).getD j 0 = m.1 ^ j := by
        rw [List.getD_eq_getElem?_getD, List.getElem?_append_left (by omega), ← List.getD_eq_getElem?_getD, pows_at _ hj]
      rw [e1, Rat.intCast_mul, pow_num, ipow_cast, ipow_cast]
      have e2 : ((m.1.den : Nat) : Rat) ^ 3 = ((m.1.den : Nat) : Rat) ^ j * ((m.1.den : Nat) : Rat) ^ (3 - j) := by rw [← rpow_add]; congr 1; omega
      rw [e2]
      grind
    · rw [Int.natAbs_mul, Int.natAbs_pow, Int.natAbs_pow]
      have h1 := Nat.pow_le_pow_left dx.n j
      have h2 : (m.1.den : Int).natAbs ^ (3 - j) ≤ (10 ^ bx) ^ (3 - j) := Nat.pow_le_pow_left (by have := dx.d; omega) _
      have h3 := Nat.mul_le_mul h1 h2
      rw [← Nat.pow_add, ← Nat.pow_mul, show bx * (j + (3 - j)) = 3 * bx by rw [show j + (3 - j) = 3 by omega]; omega] at h3
      exact h3
  · have e1 : (pows m.1 n ++ [m.2.1]).getD n 0 = m.2.1 := by
      rw [List.getD_eq_getElem?_getD, List.getElem?_append_right (by omega), pl, Nat.sub_self]; rfl
    rw [e1, hc, Rat.intCast_mul, Rat.intCast_mul, Rat.intCast_mul, Fm.num_eq m.2.1]
    simp only [Rat.intCast_natCast, Rat.natCast_mul]
    grind
  · rw [Int.natAbs_mul, Int.natAbs_mul]
    have h1 : m.2.1.num.natAbs ≤ 10 ^ bh := dh.n
    have h2 : (c : Int).natAbs ≤ 10 ^ (4 * bh) := by
      have : c ≤ (ms.map fun m => m.2.1.den).prod := by rw [hc]; exact Nat.le_mul_of_pos_left _ (Nat.pos_of_ne_zero m.2.1.den_nz)
      omega
    have h3 := Nat.mul_le_mul (Nat.mul_le_mul h1 h2) hd3
    rw [← Nat.pow_add, ← Nat.pow_add, show bh + 4 * bh + 3 * bx = 5 * bh + 3 * bx by omega] at h3
    exact h3
section
variable {P : Program} {w : World} {K : PySem.W.Frag} {mg : Str → Option Value} {base : Heap} {A : Adr}
noncomputable def wThrough (CB CA : Addr) : DW := fun ds Q X => ∃ ms : List Mk, ds = [.list (ms.map mk3)] ∧ ms.length ≤ 100 ∧ (4 < ms.length → X CB) ∧
  (ms.length ≤ 4 → (ms.map (·.1)).Nodup ∧ ∃ bx bh : Nat, (∀ m ∈ ms, Dg bx m.1) ∧ (∀ m ∈ ms, Dg bh m.2.1) ∧ grA (3 * bx) 4 + 4 * bh + 6 ≤ 2400 ∧ grR (3 * bx) (5 * bh + 3 * bx) 4 + 6 ≤ 2400 ∧ ∀ cs : List Rat, cs.length = ms.length → (∀ m ∈ ms, hgt cs m.1 = m.2.1) → (∀ q ∈ cs, Dg (grA (3 * bx) ms.length + 4 * bh + grR (3 * bx) (5 * bh + 3 * bx) ms.length + 2) q) → Q (.own (cs.map fr)))
theorem ok_bent_through (T : Txt K mg A) : FnOk P w K mg base (CXE P w) 7 A.a_bent_through A.d_bent_through ["marks"] (spW K (wThrough A.x_NoBend A.x_NoAnswer)) := by
  have G_powers_of := ok_powers_of (P := P) (w := w) (base := base) T
  have G_solved := ok_solved (P := P) (w := w) (base := base) T
  refine okW T.F_bent_through sc_bent_through (fun ds Q E h => ?_) (fun cdv Ar outer s H E hr => ?_)
  · obtain ⟨_, rfl, _⟩ := h; rfl
  refine ⟨_, (pss_cons (ps_if (pt_cmpR op_gt (pe_callB (lenK (K := K) rfl) rfl T.n_len PySem.boot_len (pa_cons (pv 0) pa_nil)) (pe_glob rfl T.c_MOST_NUMBERS.choose_spec (show RelV (.int 4) _ from ⟨_, rfl⟩)) (nomark _)) (pss_one (ps_raise T.x_NoBend hr.hd pass_own rfl (pa_cons pe_str pa_nil))) pss_nil)
      (pss_cons (ps_setLC (i := 1) (cap := [none, some 0]) (NC := ["mark", "marks"]) sc_bent_through.nd rfl rfl rfl ⟨rfl, rfl, by decide +kernel, by decide +kernel, ⟨⟨_, rfl, rfl, rfl, rfl, rfl⟩, trivial⟩, (List.forall_mem_cons.2 ⟨rfl, (fun _ h => nomatch h)⟩), rfl⟩ (pilK (K := K) rfl (pv 0)) (fun _ _ _ _ => (pg_name (i := 0) (show List.Nodup (["mark", "marks"] : List Str) by decide) rfl (Or.inl rfl))) (fun _ _ _ _ => pts_nil) (fun _ _ _ _ => (pe_call G_powers_of (hr.mono (by decide)) rfl T.m_powers_of T.F_powers_of.kp T.b_powers_of .nil passE0 (pa_cons (pe_ix (ixtK (K := K) rfl) (pv 0) pe_int (fun _ _ => rfl)) (pa_cons (pe_callB (lenK (K := K) rfl) rfl T.n_len PySem.boot_len (pa_cons (pv 1) pa_nil)) pa_nil)))))
      (pss_one (ps_ret (pe_call G_solved (hr.mono (by decide)) rfl T.m_solved T.F_solved.kp T.b_solved .nil pass_own (pa_cons (pv 1) (pa_cons (pe_lc (cap := [none]) (NC := ["mark"]) rfl ⟨rfl, rfl, by decide +kernel, by decide +kernel, trivial, (fun _ h => nomatch h), rfl⟩ (pilK (K := K) rfl (pv 0)) (fun _ _ _ _ => (pg_name (i := 0) (show List.Nodup (["mark"] : List Str) by decide) rfl (Or.inl rfl))) (fun _ _ _ _ => pts_nil) (fun _ _ _ _ => (pe_ix (ixtK (K := K) rfl) (pv 0) pe_int (fun _ _ => rfl)))) pa_nil))))))), _, (sv_seq (sv_if (tv_test (bv_ev (ev_op ro_b0 (bv_ev (ev_cb rb_len (av_cons (bv_var 0) av_nil))) (bv_ev ev_int)))) (sv_raise (ae_cons ev_str ae_nil) (by decide)) sv_next)
      (sv_seq (sv_setO 1 (ov_lc (ie_list (lv_var 0)) (gv_name 0) tv_yes (ev_ov (ov_call0 (av_cons (bv_ev (ev_ixk 0 (ev_var 0))) (av_cons (bv_ev (ev_cb rb_len (av_cons (bv_var 1) av_nil))) av_nil)))) (by decide) (by decide)))
      (sv_retO (ov_call (av_cons (bv_var 1) (av_cons (bv_ev (ev_ov (ov_lc (ie_list (lv_var 0)) (gv_name 0) tv_yes (ev_ixk 1 (ev_var 0)) (by decide) (by decide)))) av_nil)))))), ?_⟩
  rintro ds Q X ⟨ms, rfl, h100, kb, k⟩
  walk_at "s"
  refine ite2 (fun c => kb (by omega)) (fun c => ?_)
  have n4 : ms.length ≤ 4 := by omega
  obtain ⟨hnd, bx, bh, hx, hh, f1, f2, kq⟩ := k n4
  have bx8 : 8 * (bx + 1) ≤ 2400 := by simp only [grA] at f1; omega
  walk_at "s"
  refine lc_map mk3 encR (fun m : Mk => [pows m.1 ms.length]) ms (by omega) (fun Q h => h) (fun m hm N acc hN => ?_) ?_
  · walk_at "d"
    refine ⟨m.1, ms.length, bx, rfl, by omega, hx m hm, bx8, ?_⟩
    walk_at "d"
    exact ⟨frs_flat _, hN⟩
  rw [flat_single]
  walk_at "d"
  refine lc_map mk3 fr (fun m : Mk => [m.2.1]) ms (by omega) (fun Q h => h) (fun m hm N acc hN => ?_) ?_
  · walk_at "d"
    exact hN
  rw [flat_single]
  have rl : ∀ r ∈ augR (ms.map fun m => pows m.1 ms.length) (ms.map (·.2.1)), ∃ m ∈ ms, r = pows m.1 ms.length ++ [m.2.1] := fun r hr => by
    rw [aug_eq] at hr
    obtain ⟨m, hm, rfl⟩ := List.mem_map.mp hr
    exact ⟨m, hm, rfl⟩
  have mem : ∀ m ∈ ms, pows m.1 ms.length ++ [m.2.1] ∈ augR (ms.map fun m => pows m.1 ms.length) (ms.map (·.2.1)) := fun m hm => by
    rw [aug_eq]; exact List.mem_map.mpr ⟨m, hm, rfl⟩
  have lin0 : ∀ (m : Mk) (y : Nat → Rat), lin ms.length (pows m.1 ms.length ++ [m.2.1]) y = hgt ((List.range ms.length).map y) m.1 := fun m y => by
    rw [← lin_pows m.1 y ms.length ms.length (Nat.le_refl _)]
    unfold lin
    refine sumN_congr fun j hj => ?_
    rw [List.getD_eq_getElem?_getD, List.getElem?_append_left (by rw [pows_len]; exact hj), ← List.getD_eq_getElem?_getD]
  have g1 := grA_le (3 * bx) n4
  have g2 := grR_le (3 * bx) (5 * bh + 3 * bx) n4
  refine ⟨ms.map fun m => pows m.1 ms.length, ms.map (·.2.1), ms.length, 4 * bh, 3 * bx, 5 * bh + 3 * bx, rfl, List.length_map _, List.length_map _, by omega, fun x hx => ?_, vander_dg rfl n4 hx hh, by omega, by omega, ?_, ?_⟩
  · obtain ⟨m, _, rfl⟩ := List.mem_map.mp hx
    exact pows_len _ _
  · rintro ⟨y, ⟨j, hj, hy⟩, hom⟩
    exfalso
    have hz := roots ms.length ((List.range ms.length).map y) (ms.map (·.1)) (by rw [List.length_map, List.length_range]) (List.length_map _) hnd fun x hx => by
      obtain ⟨m, hm, rfl⟩ := List.mem_map.mp hx
      rw [← lin0 m y]
      exact hom _ (mem m hm)
    exact hy (hz (y j) (List.mem_map.mpr ⟨j, List.mem_range.mpr hj, rfl⟩))
  · intro x hxl hxd hom _
    walk_at "d"
    refine ⟨frs_flat _, kq x hxl (fun m hm => ?_) hxd⟩
    have e := hom _ (mem m hm)
    unfold lin at e
    rw [sumN] at e
    dsimp only at e
    rw [if_neg (Nat.lt_irrefl _)] at e
    have e1 : (pows m.1 ms.length ++ [m.2.1]).getD ms.length 0 = m.2.1 := by
      rw [List.getD_eq_getElem?_getD, List.getElem?_append_right (by rw [pows_len]; exact Nat.le_refl _), pows_len, Nat.sub_self]; rfl
    rw [e1] at e
    have e2 : sumN ms.length (fun j => (pows m.1 ms.length ++ [m.2.1]).getD j 0 * (if j < ms.length then x.getD j 0 else -1)) = hgt x m.1 := by
      have := lin0 m fun j => x.getD j 0
      unfold lin at this
      have er : (List.range ms.length).map (fun j => x.getD j 0) = x := by
        rw [← hxl]
        apply List.ext_getElem
        · simp
        · intro i h1 h2
          simp [List.getD, h2]
      rw [er] at this
      rw [← this]
      refine sumN_congr fun j hj => ?_
      rw [if_pos hj]
    rw [e2] at e
    grind
noncomputable def wHeight : DW := fun ds Q _ => ∃ (ns : List Rat) (x : Rat) (a b : Nat), ds = [.list (ns.map fr), fr x] ∧ ns.length ≤ 4 ∧ (∀ n ∈ ns, Dg a n) ∧ Dg b x ∧ 4 * (a + b + 2) ≤ 2300 ∧ Q (.dat (fr (hgt ns x)))
theorem ok_height_at (T : Txt K mg A) : FnOk P w K mg base (CXE P w) 4 A.a_height_at A.d_height_at ["numbers", "x"] (spW K wHeight) := by
  have G_plus := ok_plus (P := P) (w := w) (base := base) T
  have G_product := ok_product (P := P) (w := w) (base := base) T
  refine okW T.F_height_at sc_height_at (fun ds Q E h => ?_) (fun cdv Ar outer s H E hr => ?_)
  · obtain ⟨_, _, _, _, rfl, _⟩ := h; rfl
  refine ⟨_, (pss_cons (ps_set (i := 2) sc_height_at.nd rfl (Or.inl rfl) (pe_glob rfl T.c_NOUGHT (show RelV (.ref _) (.ref _) from rfl)))
      (pss_cons (ps_for PassesOwn.leaving rfl (pi_reversed (K := K) rfl rfl T.n_reversed (pa_cons (pv 0) pa_nil)) (pg_name (i := 3) sc_height_at.nd rfl (Or.inl rfl))
        (pss_one (ps_set (i := 2) sc_height_at.nd rfl (Or.inl rfl) (pe_call G_plus (hr.mono (by decide)) rfl T.m_plus T.F_plus.kp T.b_plus .nil passE0 (pa_cons (pe_call G_product (hr.mono (by decide)) rfl T.m_product T.F_product.kp T.b_product .nil passE0 (pa_cons (pv 2) (pa_cons (pv 1) pa_nil))) (pa_cons (pv 3) pa_nil))))))
      (pss_one (ps_ret (pv 2))))), _, (sv_seq (sv_asg (ev_c T.k_NOUGHT) (gv_name 2))
      (sv_seq (sv_for (is_rev (ev_var 0)) (gv_name 3)
        (sv_asg (ev_call0 (av_cons (bv_ev (ev_call0 (av_cons (bv_var 2) (av_cons (bv_var 1) av_nil)))) (av_cons (bv_var 3) av_nil))) (gv_name 2)))
      (sv_retV 2))), ?_⟩
  rintro ds Q X ⟨ns, x, a, b, rfl, hl, hn, hx, hs, k⟩
  walk_at "s"
  refine seq_mk (for_map fr ns.reverse (fun Q h => by
      walk_at "d"
      rw [← List.map_reverse]; exact h)
    (fun i δ => ∃ (q : Rat) (r : Option Sl), δ = [some (.dat (.list (ns.map fr))), some (.dat (fr x)), some (.dat (fr q)), r] ∧ q = (ns.reverse.take i).foldl (fun h n => h * x + n) 0 ∧ Dg (i * (a + b + 2)) q)
    ⟨0, _, rfl, rfl, Dg.zero⟩ ?_ ?_)
  · rintro i n δ hi ⟨q, r, rfl, hq, hd⟩
    have il : i < ns.length := by have := (List.getElem?_eq_some_iff.mp hi).1; simpa using this
    have hnn := hn n (by have := List.mem_of_getElem? hi; simpa using this)
    have hi4 : i * (a + b + 2) ≤ 3 * (a + b + 2) := Nat.mul_le_mul_right _ (by omega)
    have h1 := hd.mul hx
    have h2 := h1.add hnn
    walk_at "d"
    refine ⟨q, x, rfl, dgOk hd (by omega), dgOk hx (by omega), ?_⟩
    walk_at "d"
    refine ⟨_, n, rfl, dgOk h1 (by omega), dgOk hnn (by omega), ?_⟩
    walk_at "d"
    refine ⟨_, _, rfl, ?_, h2.mono (by rw [Nat.add_mul]; omega)⟩
    rw [take_snoc hi, List.foldl_append, hq]
    rfl
  · rintro δ ⟨q, r, rfl, hq, hd⟩
    walk_at "d"
    rw [List.take_of_length_le (Nat.le_refl _)] at hq
    rw [hq]
    exact k
noncomputable def wRowOf : DW := fun ds Q _ => ∃ (ns : List Rat) (ms : List Mk) (a b : Nat), ds = [.list (ns.map fr), .list (ms.map mk3)] ∧ ns.length ≤ 4 ∧ ms.length ≤ 1000 ∧ (∀ n ∈ ns, Dg a n) ∧ (∀ m ∈ ms, Dg b m.1) ∧ 4 * (a + b + 2) ≤ 2300 ∧ Q (.own ((ms.map fun m => hgt ns m.1).map fr))
theorem ok_row_of (T : Txt K mg A) : FnOk P w K mg base (CXE P w) 5 A.a_row_of A.d_row_of ["numbers", "marks"] (spW K wRowOf) := by
  have G_height_at := ok_height_at (P := P) (w := w) (base := base) T
  refine okW T.F_row_of sc_row_of (fun ds Q E h => ?_) (fun cdv Ar outer s H E hr => ?_)
  · obtain ⟨_, _, _, _, rfl, _⟩ := h; rfl
  refine ⟨_, (pss_one (ps_ret (pe_lc (cap := [none, some 0]) (NC := ["mark", "numbers"]) rfl ⟨rfl, rfl, by decide +kernel, by decide +kernel, ⟨⟨_, rfl, rfl, rfl, rfl, rfl⟩, trivial⟩, (List.forall_mem_cons.2 ⟨rfl, (fun _ h => nomatch h)⟩), rfl⟩ (pilK (K := K) rfl (pv 1)) (fun _ _ _ _ => (pg_name (i := 0) (show List.Nodup (["mark", "numbers"] : List Str) by decide) rfl (Or.inl rfl))) (fun _ _ _ _ => pts_nil) (fun _ _ _ _ => (pe_call G_height_at (hr.mono (by decide)) rfl T.m_height_at T.F_height_at.kp T.b_height_at .nil passE0 (pa_cons (pv 1) (pa_cons (pe_ix (ixtK (K := K) rfl) (pv 0) pe_int (fun _ _ => rfl)) pa_nil))))))), _, (sv_retO (ov_lc (ie_list (lv_var 1)) (gv_name 0) tv_yes (ev_call0 (av_cons (bv_var 1) (av_cons (bv_ev (ev_ixk 0 (ev_var 0))) av_nil))) (by decide) (by decide))), ?_⟩
  rintro ds Q X ⟨ns, ms, a, b, rfl, hl, hm, hn, hx, hs, k⟩
  walk_at "d"
  refine lc_map mk3 fr (fun m : Mk => [hgt ns m.1]) ms hm (fun Q h => h) (fun m h N acc hN => ?_) ?_
  · walk_at "d"
    refine ⟨ns, m.1, a, b, rfl, hl, hn, hx m h, hs, ?_⟩
    walk_at "d"
    exact hN
  · rw [flat_single]
    exact k
end
noncomputable def termJ (ts xs : List Rat) : Nat → List Rat
  | 0 => ts
  | j + 1 => List.zipWith (fun t x => t * x) (termJ ts xs j) xs
noncomputable def momR (ts xs : List Rat) (n : Nat) : List Rat := (List.range n).map fun j => tot (termJ ts xs j)
theorem termJ_len {ts xs : List Rat} (h : ts.length = xs.length) : ∀ j, (termJ ts xs j).length = xs.length
  | 0 => h
  | j + 1 => by rw [termJ, List.length_zipWith, termJ_len h j]; omega
noncomputable def EvenBy (ts xs : List Rat) (bend : Nat) : Prop := ∀ j, j ≤ bend → tot (termJ ts xs j) = 0
structure TSz (L B M C l b m c n : Nat) (ts xs : List Rat) : Prop where
  len : ts.length = xs.length
  le : xs.length ≤ 60
  pos : 0 < L
  posM : 0 < M
  pL : L ≤ 10 ^ l
  pB : B ≤ 10 ^ b
  pM : M ≤ 10 ^ m
  pC : C ≤ 10 ^ c
  h : ∀ t ∈ ts, Cm L B t
  x : ∀ x ∈ xs, Cm M C x
  fit : l + b + n * (m + c) + 4 ≤ 2400
theorem TSz.term {L B M C l b m c n : Nat} {ts xs : List Rat} (z : TSz L B M C l b m c n ts xs) : ∀ j, ∀ t ∈ termJ ts xs j, Cm (L * M ^ j) (B * C ^ j) t
  | 0 => fun t ht => by rw [Nat.pow_zero, Nat.pow_zero, Nat.mul_one, Nat.mul_one]; exact z.h t ht
  | j + 1 => by
    have ih := z.term j
    rw [termJ]
    refine zipWith_all ih z.x fun a b ha hb => ?_
    rw [Nat.pow_succ, Nat.pow_succ, ← Nat.mul_assoc, ← Nat.mul_assoc]
    exact ha.mul hb
theorem TSz.dg {L B M C l b m c n : Nat} {ts xs : List Rat} (z : TSz L B M C l b m c n ts xs) {j : Nat} (hj : j ≤ n) {t : Rat} {k : Nat} (hk : k ≤ 60) (h : Cm (L * M ^ j) (k * (B * C ^ j)) t) : Dg (l + b + n * (m + c) + 3) t := by
  have p1 : L * M ^ j ≤ 10 ^ (l + m * j) := by
    rw [Nat.pow_add, Nat.pow_mul]; exact Nat.mul_le_mul z.pL (Nat.pow_le_pow_left z.pM j)
  have p2 : B * C ^ j ≤ 10 ^ (b + c * j) := by
    rw [Nat.pow_add, Nat.pow_mul]; exact Nat.mul_le_mul z.pB (Nat.pow_le_pow_left z.pC j)
  have h1 := h.dg (Nat.mul_pos z.pos (Nat.pow_pos z.posM)) p1 (sixty_ten hk p2)
  refine h1.mono ?_
  have e1 : (m + c) * j ≤ (m + c) * n := Nat.mul_le_mul_left _ hj
  rw [Nat.add_mul] at e1
  rw [Nat.mul_comm n (m + c)]
  omega
theorem TSz.termOk {L B M C l b m c n : Nat} {ts xs : List Rat} (z : TSz L B M C l b m c n ts xs) {j : Nat} (hj : j ≤ n) : ∀ t ∈ termJ ts xs j, Ok t := fun t ht =>
  dgOk (z.dg hj (k := 1) (by decide) (by rw [Nat.one_mul]; exact z.term j t ht)) (by have := z.fit; omega)
theorem TSz.totOk {L B M C l b m c n : Nat} {ts xs : List Rat} (z : TSz L B M C l b m c n ts xs) {j : Nat} (hj : j ≤ n) (i : Nat) : Ok (tot ((termJ ts xs j).take i)) := by
  have h := Cm.tot (qs := (termJ ts xs j).take i) (L := L * M ^ j) (B := B * C ^ j) fun q hq => z.term j q (List.mem_of_mem_take hq)
  have := termJ_len z.len j
  have := z.le
  exact dgOk (z.dg hj (by rw [List.length_take]; omega) h) (by have := z.fit; omega)
section
variable {P : Program} {w : World} {K : PySem.W.Frag} {mg : Str → Option Value} {base : Heap} {A : Adr}
noncomputable def wMoments : DW := fun ds Q _ => ∃ (ms : List Mk) (ts : List Rat) (n L B M C l b m c : Nat), ds = [.list (ms.map mk3), .list (ts.map fr), .int (n : Int)] ∧ n ≤ 20 ∧ TSz L B M C l b m c n ts (ms.map (·.1)) ∧ Q (.own ((momR ts (ms.map (·.1)) n).map fr))
theorem ok_moments_of (T : Txt K mg A) : FnOk P w K mg base (CXE P w) 4 A.a_moments_of A.d_moments_of ["marks", "terms", "count"] (spW K wMoments) := by
  have G_total_of := ok_total_of (P := P) (w := w) (base := base) T
  have G_product := ok_product (P := P) (w := w) (base := base) T
  refine okW T.F_moments_of sc_moments_of (fun ds Q E h => ?_) (fun cdv Ar outer s H E hr => ?_)
  · obtain ⟨_, _, _, _, _, _, _, _, _, _, _, rfl, _⟩ := h; rfl
  refine ⟨_, (pss_cons (ps_set (i := 3) sc_moments_of.nd rfl (Or.inl rfl) (pe_lst pa_nil))
      (pss_cons (ps_for PassesOwn.leaving rfl (pi_range1 rfl T.n_range (pa_cons (pv 2) pa_nil)) (pg_name (i := 4) sc_moments_of.nd rfl (Or.inl rfl))
        (pss_cons (ps_expr (pe_bm PySem.F.plainAttrs_list PySem.F.slot_list_append PySem.F.type_list_append mt_append (pv 3) (pa_cons (pe_call G_total_of (hr.mono (by decide)) rfl T.m_total_of T.F_total_of.kp T.b_total_of .nil passE0 (pa_cons (pv 1) pa_nil)) pa_nil)))
      (pss_one (ps_setLC (i := 1) (cap := [none, none]) (NC := ["term", "mark"]) sc_moments_of.nd rfl rfl rfl ⟨rfl, rfl, by decide +kernel, by decide +kernel, trivial, (fun _ h => nomatch h), rfl⟩ (pi_zip (K := K) rfl rfl T.n_zip (pa_cons (pv 1) (pa_cons (pv 0) pa_nil))) (fun _ _ _ _ => (pgtK (K := K) (n := 2) rfl rfl (pgs_cons (pg_name (i := 0) (show List.Nodup (["term", "mark"] : List Str) by decide) rfl (Or.inl rfl)) (pgs_cons (pg_name (i := 1) (show List.Nodup (["term", "mark"] : List Str) by decide) rfl (Or.inl rfl)) pgs_nil)))) (fun _ _ _ _ => pts_nil) (fun _ _ _ _ => (pe_call G_product (hr.mono (by decide)) rfl T.m_product T.F_product.kp T.b_product .nil passE0 (pa_cons (pv 0) (pa_cons (pe_ix (ixtK (K := K) rfl) (pv 1) pe_int (fun _ _ => rfl)) pa_nil))))))))
      (pss_one (ps_ret (pv 3))))), _, (sv_seq (sv_setO 3 (ov_lst ae_nil (by decide)))
      (sv_seq (sv_for (is_rng1 (av_cons (bv_var 2) av_nil)) (gv_name 4)
        (sv_seq (sv_app 3 (ev_call0 (av_cons (bv_var 1) av_nil)))
      (sv_frzE 1 (sv_setO 1 (ov_lc (ie_zip (lv_var 1) (lv_var 0)) (gv_tup (gs_cons (gv_name 0) (gs_cons (gv_name 1) gs_nil))) tv_yes (ev_call0 (av_cons (bv_var 0) (av_cons (bv_ev (ev_ixk 0 (ev_var 1))) av_nil))) (by decide) (by decide))))))
      (sv_retV 3))), ?_⟩
  rintro ds Q X ⟨ms, ts, n, L, B, M, C, l, b, m, c, rfl, hn, z, k⟩
  have ml : ms.length ≤ 60 := by have := z.le; rwa [List.length_map] at this
  walk_at "s"
  refine seq_mk (for_rng (lo := 0) (st := 1) (n := n) (fun Q h => by
      walk_at "d"
      refine ⟨by omega, ?_⟩
      rw [Int.toNat_natCast]; exact h)
    (fun i δ => ∃ s1 : Option Sl, δ = [some (.dat (.list (ms.map mk3))), some (.dat (.list ((termJ ts (ms.map (·.1)) i).map fr))), some (.dat (.int (n : Int))), some (.own ((momR ts (ms.map (·.1)) i).map fr)), s1])
    ⟨_, rfl⟩ ?_ ?_)
  · rintro i δ hi ⟨s1, rfl⟩
    have tl := termJ_len z.len i
    rw [List.length_map] at tl
    walk_at "s"
    refine ⟨_, rfl, z.termOk (by omega), z.totOk (by omega), ?_⟩
    walk_at "d"
    refine ⟨by unfold momR; rw [List.length_map, List.length_range]; omega, ?_⟩
    walk_at "d"
    refine lc_map (fun p : Rat × Mk => PyData.tuple [fr p.1, mk3 p.2]) fr (fun p : Rat × Mk => [p.1 * p.2.1]) ((termJ ts (ms.map (·.1)) i).zip ms) (by rw [List.length_zip]; omega) (fun Q h => by
        walk_at "d"
        rw [pairD_map]; exact h) (fun p hp N acc hN => ?_) ?_
    · have o1 := zip_all (z.termOk (j := i) (by omega)) (q := fun mm : Mk => Ok mm.1) (fun mm hm => by
        have hx := z.x mm.1 (List.mem_map.mpr ⟨mm, hm, rfl⟩)
        have hf := z.fit
        have h1 : m + c ≤ n * (m + c) := Nat.le_mul_of_pos_left _ (by omega)
        exact dgOk (hx.dg z.posM z.pM z.pC) (by omega)) p hp
      walk_at "d"
      refine ⟨p.1, p.2.1, rfl, o1.1, o1.2, ?_⟩
      walk_at "d"
      exact hN
    rw [flat_single, zip_map (fun (t : Rat) (mm : Mk) => t * mm.1)]
    have e1 : List.zipWith (fun (t : Rat) (mm : Mk) => t * mm.1) (termJ ts (ms.map (·.1)) i) ms = termJ ts (ms.map (·.1)) (i + 1) := by
      rw [termJ, List.zipWith_map_right]
    rw [e1]
    have e2 : (momR ts (ms.map (·.1)) i).map fr ++ [fr (tot (termJ ts (ms.map (·.1)) i))] = (momR ts (ms.map (·.1)) (i + 1)).map fr := by
      unfold momR
      rw [List.range_succ, List.map_append, List.map_append]
      rfl
    rw [e2]
    walk_at "d"
    exact ⟨_, rfl⟩
  · rintro δ ⟨s1, rfl⟩
    walk_at "d"
    exact k
noncomputable def wEven : DW := fun ds Q _ => ∃ (ms : List Mk) (ts : List Rat) (bend L B M C l b m c : Nat), ds = [.list (ms.map mk3), .list (ts.map fr), .int (bend : Int)] ∧ bend ≤ 10 ∧ TSz L B M C l b m c (bend + 1) ts (ms.map (·.1)) ∧ ∀ b : Bool, (b = true ↔ EvenBy ts (ms.map (·.1)) bend) → Q (.dat (.bool b))
theorem ok_is_even (T : Txt K mg A) : FnOk P w K mg base (CXE P w) 5 A.a_is_even A.d_is_even ["marks", "pulls", "bend"] (spW K wEven) := by
  have G_moments_of := ok_moments_of (P := P) (w := w) (base := base) T
  refine okW T.F_is_even sc_is_even (fun ds Q E h => ?_) (fun cdv Ar outer s H E hr => ?_)
  · obtain ⟨_, _, _, _, _, _, _, _, _, _, _, rfl, _⟩ := h; rfl
  refine ⟨_, (pss_one (ps_ret (pe_callB (allK (K := K) rfl rfl) rfl T.n_all Dl.boot_all (pa_cons (pe_lc (cap := [none]) (NC := ["moment"]) rfl ⟨rfl, rfl, by decide +kernel, by decide +kernel, trivial, (fun _ h => nomatch h), rfl⟩ (pilK (K := K) rfl (pe_call G_moments_of (hr.mono (by decide)) rfl T.m_moments_of T.F_moments_of.kp T.b_moments_of .nil passE0 (pa_cons (pv 0) (pa_cons (pv 1) (pa_cons (pe_op op_add (pv 2) pe_int) pa_nil))))) (fun _ _ _ _ => (pg_name (i := 0) (show List.Nodup (["moment"] : List Str) by decide) rfl (Or.inl rfl))) (fun _ _ _ _ => pts_nil) (fun _ _ _ _ => (pe_cmpR (eqK (K := K) rfl hr.units) (pv 0) (pe_glob rfl T.c_NOUGHT (show RelV (.ref _) (.ref _) from rfl)) (nomark _)))) pa_nil)))), _, (sv_ret (bv_ev (ev_cb rb_all (av_cons (bv_ev (ev_ov (ov_lc (ie_list (lv_ov (ov_call0 (av_cons (bv_var 0) (av_cons (bv_var 1) (av_cons (bv_ev (ev_op ro_i0 (bv_var 2) (bv_ev ev_int))) av_nil)))))) (gv_name 0) tv_yes (ev_op ro_eqD (bv_var 0) (bv_ev (ev_c T.k_NOUGHT))) (by decide) (by decide)))) av_nil)))), ?_⟩
  rintro ds Q X ⟨ms, ts, bend, L, B, M, C, l, b, m, c, rfl, hb, z, k⟩
  walk_at "d"
  refine lc_map fr PyData.bool (fun q : Rat => [decide (q = 0)]) (momR ts (ms.map (·.1)) (bend + 1)) (by unfold momR; rw [List.length_map, List.length_range]; omega) (fun Q h => by
      walk_at "d"
      refine ⟨ms, ts, bend + 1, L, B, M, C, l, b, m, c, by rw [show (bend : Int) + 1 = ((bend + 1 : Nat) : Int) by omega], by omega, z, ?_⟩
      walk_at "d"
      exact ⟨frs_flat _, h⟩) (fun q hq N acc hN => ?_) ?_
  · walk_at "d"
    refine ⟨Rat, eRat, q, 0, rfl, rfl, fun b hb => ?_⟩
    rw [show b = decide (q = 0) from by rw [Bool.eq_iff_iff, hb, decide_eq_true_iff]]
    exact hN
  rw [flat_single]
  walk_at "d"
  refine ⟨_, rfl, ?_⟩
  walk_at "d"
  refine k _ ?_
  unfold EvenBy momR
  simp only [List.map_map, List.all_map, List.all_eq_true, List.mem_range, Function.comp, id, decide_eq_true_iff]
  constructor
  · intro h j hj; exact h j (by omega)
  · intro h j hj; exact h j (by omega)
noncomputable def wIsBend : DW := fun ds Q _ => ∃ b : Int, ds = [.int b] ∧ 0 ≤ b ∧ b ≤ 3 ∧ Q (.dat (.bool true))
theorem ok_is_bend (T : Txt K mg A) : FnOk P w K mg base (CXE P w) 1 A.a_is_bend A.d_is_bend ["bend"] (spW K wIsBend) := by
  refine okW T.F_is_bend sc_is_bend (fun ds Q E h => ?_) (fun cdv Ar outer s H E hr => ?_)
  · obtain ⟨_, rfl, _⟩ := h; rfl
  refine ⟨_, (pss_one (ps_ret (pe_and (pe_callB (isiDK (K := K) rfl) rfl T.n_isinstance bt_isinstance (pa_cons (pv 0) (pa_cons (pe_bltn rfl T.n_int bt_int (show RelV (.ty "int") (.type "int") from rfl)) pa_nil))) (pe_and (pe_not (pe_callB (isiDK (K := K) rfl) rfl T.n_isinstance bt_isinstance (pa_cons (pv 0) (pa_cons (pe_bltn rfl T.n_bool bt_bool (show RelV (.ty "bool") (.type "bool") from rfl)) pa_nil)))) (pe_one (pe_chain op_le op_le pe_int (pv 0) (pe_glob rfl T.c_MOST_BEND.choose_spec (show RelV (.int 3) _ from ⟨_, rfl⟩)))))))), _, (sv_ret (bv_ev (ev_and (bv_ev (ev_isi (by decide) (bv_var 0))) (ev_and (bv_ev (ev_not (bv_ev (ev_isi (by decide) (bv_var 0))))) (ev_chain (bv_ev ev_int) (bv_var 0) (bv_ev ev_int)))))), ?_⟩
  rintro ds Q X ⟨b, rfl, h0, h3, k⟩
  walk_at "d"
  rw [if_pos (by decide), if_pos (by decide), if_pos h0, decide_eq_true h3]
  exact k
end
noncomputable def polyOf (n : Nat) (y : Nat → Rat) : List Rat := (List.range n).map y
theorem poly_succ (n : Nat) (y : Nat → Rat) : polyOf (n + 1) y = polyOf n y ++ [y n] := by unfold polyOf; rw [List.range_succ, List.map_append]; rfl
theorem poly_len (n : Nat) (y : Nat → Rat) : (polyOf n y).length = n := by unfold polyOf; rw [List.length_map, List.length_range]
theorem poly_hgt (n : Nat) (y : Nat → Rat) (x : Rat) : hgt (polyOf (n + 1) y) x = hgt (polyOf n y) x + y n * x ^ n := by
  rw [poly_succ, hgt_snoc, poly_len]
theorem getD_of {α : Type} {xs : List α} {k : Nat} {d : α} (h : k < xs.length) : xs.getD k d = xs[k] := by simp [List.getD, h]
theorem poly_self {x : List Rat} {n : Nat} (h : x.length = n) : polyOf n (fun j => x.getD j 0) = x := by
  unfold polyOf
  rw [← h]
  apply List.ext_getElem
  · simp
  · intro i h1 h2
    simp [List.getD, h2]
theorem hgt_noughts (x : Rat) (cs : List Rat) : ∀ n, hgt (cs ++ List.replicate n 0) x = hgt cs x
  | 0 => by rw [List.replicate_zero, List.append_nil]
  | n + 1 => by
    rw [List.replicate_succ', ← List.append_assoc, hgt_snoc, hgt_noughts x cs n, Rat.zero_mul, Rat.add_zero]
theorem hgt_sub : ∀ (a b : List Rat) (x : Rat), a.length = b.length → hgt (List.zipWith (fun p q => p - q) a b) x = hgt a x - hgt b x
  | [], [], x, _ => by rw [List.zipWith_nil_left, hgt_nil]; grind
  | p :: a, q :: b, x, h => by
    rw [List.zipWith_cons_cons, hgt_cons, hgt_cons, hgt_cons, hgt_sub a b x (by simpa using h)]
    grind
theorem one_line {a b xs : List Rat} (la : a.length = xs.length) (lb : b.length = xs.length) (nd : xs.Nodup) (h : ∀ x ∈ xs, hgt a x = hgt b x) : a = b := by
  have k := roots xs.length (List.zipWith (fun p q => p - q) a b) xs (by rw [List.length_zipWith]; omega) rfl nd fun x hx => by
    rw [hgt_sub a b x (by omega), h x hx]; grind
  refine List.ext_getElem (by omega) fun j h1 h2 => ?_
  have := k (a[j] - b[j]) (by
    have hj : j < (List.zipWith (fun p q => p - q) a b).length := by rw [List.length_zipWith]; omega
    rw [← List.getElem_zipWith (f := fun p q => p - q) (h := hj)]
    exact List.getElem_mem hj)
  grind
theorem triD_map {α β γ : Type} (f : α → PyData) (g : β → PyData) (h : γ → PyData) : ∀ (xs : List α) (ys : List β) (zs : List γ), triD (xs.map f) (ys.map g) (zs.map h) = (xs.zip (ys.zip zs)).map fun p => PyData.tuple [f p.1, g p.2.1, h p.2.2]
  | [], _, _ => by simp [Dl.triD]
  | x :: xs, [], _ => by simp [Dl.triD]
  | x :: xs, y :: ys, [] => by simp [Dl.triD]
  | x :: xs, y :: ys, z :: zs => by
    have := triD_map f g h xs ys zs
    simp [Dl.triD, this]
theorem num_pos_iff (q : Rat) : 0 < q.num ↔ 0 < q := by
  have h1 := @Rat.num_nonneg (-q)
  have h2 : (-q).num = -q.num := rfl
  rw [h2] at h1
  have h3 : (0 ≤ -q) ↔ ¬ 0 < q := by rw [Rat.not_lt]; constructor <;> intro <;> grind
  rw [h3] at h1
  constructor
  · intro h; exact Decidable.not_not.mp fun z => by have := h1.mpr z; omega
  · intro h; exact Int.not_le.mp fun z => absurd h (h1.mp (by omega))
theorem num_neg_iff (q : Rat) : q.num < 0 ↔ q < 0 := by
  have := @Rat.num_nonneg q
  rw [← Rat.not_le, ← this]; omega
theorem cast_pos {n : Nat} (h : 0 < n) : (0 : Rat) < (n : Rat) := by
  rw [← Rat.intCast_natCast]; exact Rat.intCast_pos.mpr (by omega)
theorem num_mul_pos (x p : Rat) : 0 < x.num * p.num ↔ 0 < x * p := by
  have d1 := cast_pos (Nat.pos_of_ne_zero x.den_nz)
  have d2 := cast_pos (Nat.pos_of_ne_zero p.den_nz)
  have d := Rat.mul_pos d1 d2
  have e : ((x.num * p.num : Int) : Rat) = x * p * ((x.den : Rat) * (p.den : Rat)) := by
    rw [Rat.intCast_mul, Fm.num_eq x, Fm.num_eq p]; grind
  rw [← Rat.intCast_pos, e]
  constructor
  · intro h
    refine Rat.not_le.mp fun z => ?_
    have := Rat.mul_nonneg (show 0 ≤ -(x * p) by grind) (show 0 ≤ (x.den : Rat) * (p.den : Rat) by grind)
    grind
  · intro h
    exact Rat.mul_pos h d
noncomputable def FarAt (M : Rat) (z : Rat × Rat) : Prop := z.2 ≠ 0 → absR z.1 = M ∧ 0 < z.1 * z.2
noncomputable def FairFar (xs ps : List Rat) : Prop := ((∀ p ∈ ps, p = 0) ∧ ∀ x ∈ xs, x = 0) ∨ (¬ (∀ p ∈ ps, p = 0) ∧ (∀ z ∈ xs.zip ps, FarAt (maxR (xs.map absR)) z) ∧ tot (ps.map absR) = 1)
noncomputable def SumAt (w x p : Rat) : Prop := absR p ≤ w ∧ (0 < x → p = w) ∧ (x < 0 → p = -w)
noncomputable def FairSum (ms : List Mk) (xs ps : List Rat) : Prop := ∀ z ∈ ms.zip (xs.zip ps), SumAt (z.1.2.2 : Rat) z.2.1 z.2.2
noncomputable def Fair (kd : Str) (ms : List Mk) (row ps : List Rat) : Prop := if kd = "far" then FairFar (missR ms row) ps else if kd = "sum" then FairSum ms (missR ms row) ps else ps = wmissR ms row
structure PSz (L B l b : Nat) (ps : List Rat) : Prop where
  len : ps.length ≤ 60
  pos : 0 < L
  pL : L ≤ 10 ^ l
  pB : B ≤ 10 ^ b
  h : ∀ p ∈ ps, Cm L B p
  fit : l + b + 4 ≤ 2400
section
variable {L B l b : Nat} {ps : List Rat}
theorem PSz.ok (z : PSz L B l b ps) : ∀ p ∈ ps, Ok p := fun p hp => dgOk ((z.h p hp).dg z.pos z.pL z.pB) (by have := z.fit; omega)
theorem PSz.absOk (z : PSz L B l b ps) : ∀ p ∈ ps.map absR, Ok p := fun p hp => by
  obtain ⟨x, hx, rfl⟩ := List.mem_map.mp hp
  exact dgOk ((z.h x hx).abs.dg z.pos z.pL z.pB) (by have := z.fit; omega)
theorem PSz.totOk (z : PSz L B l b ps) (i : Nat) : Ok (tot ((ps.map absR).take i)) := by
  have h := Cm.tot (qs := (ps.map absR).take i) (L := L) (B := B) fun q hq => by
    obtain ⟨x, hx, rfl⟩ := List.mem_map.mp (List.mem_of_mem_take hq)
    exact (z.h x hx).abs
  exact dgOk (h.dg z.pos z.pL (sixty_ten (by rw [List.length_take, List.length_map]; have := z.len; omega) z.pB)) (by have := z.fit; omega)
end
theorem all_dec {p : Rat → Bool} {xs : List Rat} : ((xs.map p).all id = true) ↔ ∀ x ∈ xs, p x = true := by simp
theorem bool_dec {b : Bool} {p : Prop} [Decidable p] (h : b = true ↔ p) : b = decide p := by
  rw [Bool.eq_iff_iff, h, decide_eq_true_iff]
section
variable {P : Program} {w : World} {K : PySem.W.Frag} {mg : Str → Option Value} {base : Heap} {A : Adr}
noncomputable def wSign : DW := fun ds Q _ => ∃ x p : Rat, ds = [fr x, fr p] ∧ Ok x ∧ Ok p ∧ Q (.dat (.bool (decide (0 < x * p))))
theorem ok_has_sign_of (T : Txt K mg A) : FnOk P w K mg base (CXE P w) 1 A.a_has_sign_of A.d_has_sign_of ["miss", "pull"] (spW K wSign) := by
  refine okW T.F_has_sign_of sc_has_sign_of (fun ds Q E h => ?_) (fun cdv Ar outer s H E hr => ?_)
  · obtain ⟨_, _, rfl, _⟩ := h; rfl
  refine ⟨_, (pss_one (ps_ret (pe_cmpR op_gt (pe_op op_mulB (pe_ix (ixtK (K := K) rfl) (pv 0) pe_int (fun _ _ => rfl)) (pe_ix (ixtK (K := K) rfl) (pv 1) pe_int (fun _ _ => rfl))) pe_int (nomark _)))), _, (sv_ret (bv_ev (ev_op ro_b0 (bv_ev (ev_op ro_i (bv_ev (ev_ixk 0 (ev_var 0))) (bv_ev (ev_ixk 0 (ev_var 1))))) (bv_ev ev_int)))), ?_⟩
  rintro ds Q X ⟨x, p, rfl, ox, op, k⟩
  walk_at "d"
  refine ⟨mulOk ox.n op.n, ?_⟩
  have e : decide (0 < x.num * p.num) = decide (0 < x * p) := by rw [decide_eq_decide]; exact num_mul_pos x p
  rw [e]
  exact k
noncomputable def wFairFar : DW := fun ds Q _ => ∃ (xs ps : List Rat) (L B l b : Nat), ds = [.list (xs.map fr), .list (ps.map fr)] ∧ PSz L B l b ps ∧ xs.length = ps.length ∧ xs ≠ [] ∧ (∀ x ∈ xs, Ok x) ∧ ∀ b : Bool, (b = true ↔ FairFar xs ps) → Q (.dat (.bool b))
theorem ok_is_fair_far (T : Txt K mg A) : FnOk P w K mg base (CXE P w) 4 A.a_is_fair_far A.d_is_fair_far ["misses", "pulls"] (spW K wFairFar) := by
  have G_has_sign_of := ok_has_sign_of (P := P) (w := w) (base := base) T
  have G_size_of := ok_size_of (P := P) (w := w) (base := base) T
  have G_greatest_of := ok_greatest_of (P := P) (w := w) (base := base) T
  have G_total_of := ok_total_of (P := P) (w := w) (base := base) T
  refine okW T.F_is_fair_far sc_is_fair_far (fun ds Q E h => ?_) (fun cdv Ar outer s H E hr => ?_)
  · obtain ⟨_, _, _, _, _, _, rfl, _⟩ := h; rfl
  refine ⟨_, (pss_cons (ps_if (pt_val (pe_callB (allK (K := K) rfl rfl) rfl T.n_all Dl.boot_all (pa_cons (pe_lc (cap := [none]) (NC := ["pull"]) rfl ⟨rfl, rfl, by decide +kernel, by decide +kernel, trivial, (fun _ h => nomatch h), rfl⟩ (pilK (K := K) rfl (pv 1)) (fun _ _ _ _ => (pg_name (i := 0) (show List.Nodup (["pull"] : List Str) by decide) rfl (Or.inl rfl))) (fun _ _ _ _ => pts_nil) (fun _ _ _ _ => (pe_cmpR (eqK (K := K) rfl hr.units) (pv 0) (pe_glob rfl T.c_NOUGHT (show RelV (.ref _) (.ref _) from rfl)) (nomark _)))) pa_nil))) (pss_one (ps_ret (pe_callB (allK (K := K) rfl rfl) rfl T.n_all Dl.boot_all (pa_cons (pe_lc (cap := [none]) (NC := ["miss"]) rfl ⟨rfl, rfl, by decide +kernel, by decide +kernel, trivial, (fun _ h => nomatch h), rfl⟩ (pilK (K := K) rfl (pv 0)) (fun _ _ _ _ => (pg_name (i := 0) (show List.Nodup (["miss"] : List Str) by decide) rfl (Or.inl rfl))) (fun _ _ _ _ => pts_nil) (fun _ _ _ _ => (pe_cmpR (eqK (K := K) rfl hr.units) (pv 0) (pe_glob rfl T.c_NOUGHT (show RelV (.ref _) (.ref _) from rfl)) (nomark _)))) pa_nil)))) pss_nil)
      (pss_cons (ps_set (i := 2) sc_is_fair_far.nd rfl (Or.inl rfl) (pe_call G_greatest_of (hr.mono (by decide)) rfl T.m_greatest_of T.F_greatest_of.kp T.b_greatest_of .nil passE0 (pa_cons (pe_lc (cap := [none]) (NC := ["miss"]) rfl ⟨rfl, rfl, by decide +kernel, by decide +kernel, trivial, (fun _ h => nomatch h), rfl⟩ (pilK (K := K) rfl (pv 0)) (fun _ _ _ _ => (pg_name (i := 0) (show List.Nodup (["miss"] : List Str) by decide) rfl (Or.inl rfl))) (fun _ _ _ _ => pts_nil) (fun _ _ _ _ => (pe_call G_size_of (hr.mono (by decide)) rfl T.m_size_of T.F_size_of.kp T.b_size_of .nil passE0 (pa_cons (pv 0) pa_nil)))) pa_nil)))
      (pss_cons (ps_for PassesOwn.leaving rfl (pi_zip (K := K) rfl rfl T.n_zip (pa_cons (pv 0) (pa_cons (pv 1) pa_nil))) (pgtK (K := K) (n := 2) rfl rfl (pgs_cons (pg_name (i := 3) sc_is_fair_far.nd rfl (Or.inl rfl)) (pgs_cons (pg_name (i := 4) sc_is_fair_far.nd rfl (Or.inl rfl)) pgs_nil)))
        (pss_one (ps_if (PW.pt (pw_and (pt_cmpR (neK (K := K) rfl hr.units) (pv 4) (pe_glob rfl T.c_NOUGHT (show RelV (.ref _) (.ref _) from rfl)) (nomark _)) (pw_and1 (pt_not (PW.pt (pw_and (pt_cmpR (eqK (K := K) rfl hr.units) (pe_call G_size_of (hr.mono (by decide)) rfl T.m_size_of T.F_size_of.kp T.b_size_of .nil passE0 (pa_cons (pv 3) pa_nil)) (pv 2) (nomark _)) (pw_and1 (pt_val (pe_call G_has_sign_of (hr.mono (by decide)) rfl T.m_has_sign_of T.F_has_sign_of.kp T.b_has_sign_of .nil passE0 (pa_cons (pv 3) (pa_cons (pv 4) pa_nil))))))))))) (pss_one (ps_ret pe_bl)) pss_nil)))
      (pss_one (ps_ret (pe_cmpR (eqK (K := K) rfl hr.units) (pe_call G_total_of (hr.mono (by decide)) rfl T.m_total_of T.F_total_of.kp T.b_total_of .nil passE0 (pa_cons (pe_lc (cap := [none]) (NC := ["pull"]) rfl ⟨rfl, rfl, by decide +kernel, by decide +kernel, trivial, (fun _ h => nomatch h), rfl⟩ (pilK (K := K) rfl (pv 1)) (fun _ _ _ _ => (pg_name (i := 0) (show List.Nodup (["pull"] : List Str) by decide) rfl (Or.inl rfl))) (fun _ _ _ _ => pts_nil) (fun _ _ _ _ => (pe_call G_size_of (hr.mono (by decide)) rfl T.m_size_of T.F_size_of.kp T.b_size_of .nil passE0 (pa_cons (pv 0) pa_nil)))) pa_nil)) (pe_tup (pa_cons pe_int (pa_cons pe_int pa_nil))) (nomark _))))))), _, (sv_seq (sv_if (tv_b (bv_ev (ev_cb rb_all (av_cons (bv_ev (ev_ov (ov_lc (ie_list (lv_var 1)) (gv_name 0) tv_yes (ev_op ro_eqD (bv_var 0) (bv_ev (ev_c T.k_NOUGHT))) (by decide) (by decide)))) av_nil)))) (sv_ret (bv_ev (ev_cb rb_all (av_cons (bv_ev (ev_ov (ov_lc (ie_list (lv_var 0)) (gv_name 0) tv_yes (ev_op ro_eqD (bv_var 0) (bv_ev (ev_c T.k_NOUGHT))) (by decide) (by decide)))) av_nil)))) sv_next)
      (sv_seq (sv_asg (ev_call0 (av_cons (bv_ev (ev_ov (ov_lc (ie_list (lv_var 0)) (gv_name 0) tv_yes (ev_call0 (av_cons (bv_var 0) av_nil)) (by decide) (by decide)))) av_nil)) (gv_name 2))
      (sv_seq (sv_for (is_zip (ev_var 0) (ev_var 1)) (gv_tup (gs_cons (gv_name 3) (gs_cons (gv_name 4) gs_nil)))
        (sv_if (tv_and (tv_test (bv_ev (ev_op ro_neD (bv_var 4) (bv_ev (ev_c T.k_NOUGHT))))) (tv_not (tv_and (tv_test (bv_ev (ev_op ro_eqD (bv_ev (ev_call0 (av_cons (bv_var 3) av_nil))) (bv_var 2)))) (tv_b (bv_ev (ev_call0 (av_cons (bv_var 3) (av_cons (bv_var 4) av_nil)))))))) (sv_ret (bv_ev ev_bl)) sv_next))
      (sv_ret (bv_ev (ev_op ro_eqD (bv_ev (ev_call0 (av_cons (bv_ev (ev_ov (ov_lc (ie_list (lv_var 1)) (gv_name 0) tv_yes (ev_call0 (av_cons (bv_var 0) av_nil)) (by decide) (by decide)))) av_nil))) (bv_ev (ev_tup (ae_cons ev_int (ae_cons ev_int ae_nil)) (by decide))))))))), ?_⟩
  rintro ds Q X ⟨xs, ps, L, B, l, b, rfl, z, hlen, hne, hx, k⟩
  have zl := z.len
  have nought : ∀ (q : Rat) (R : PyData → Prop), R (.bool (decide (q = 0))) → oEqD (fr q) (.tuple [.int 0, .int 1]) R := fun q R hR =>
    ⟨Rat, eRat, q, 0, rfl, rfl, fun b hb => by rw [bool_dec hb]; exact hR⟩
  walk_at "s"
  refine lc_map fr PyData.bool (fun p : Rat => [decide (p = 0)]) ps (by omega) (fun Q h => h) (fun p hp N acc hN => ?_) ?_
  · walk_at "d"
    exact nought p _ hN
  rw [flat_single]
  walk_at "d"
  refine ⟨_, rfl, ?_⟩
  have ea : ((ps.map fun p => decide (p = 0)).all id = true) ↔ ∀ p ∈ ps, p = 0 := by
    rw [all_dec]; simp
  walk_at "d"
  refine ite2 (fun c => ?_) (fun c => ?_)
  · have c0 := ea.mp c
    walk_at "d"
    refine lc_map fr PyData.bool (fun p : Rat => [decide (p = 0)]) xs (by omega) (fun Q h => h) (fun p hp N acc hN => ?_) ?_
    · walk_at "d"
      exact nought p _ hN
    rw [flat_single]
    walk_at "d"
    refine ⟨_, rfl, ?_⟩
    walk_at "d"
    refine k _ ?_
    rw [all_dec]
    constructor
    · intro h
      exact .inl ⟨c0, fun x hx => of_decide_eq_true (h x hx)⟩
    · rintro (⟨_, h⟩ | ⟨h, _⟩)
      · exact fun x hx => decide_eq_true (h x hx)
      · exact absurd c0 h
  have c1 : ¬ ∀ p ∈ ps, p = 0 := fun h => c (ea.mpr h)
  walk_at "s"
  refine lc_map fr fr (fun q : Rat => [absR q]) xs (by omega) (fun Q h => h) (fun q hq N acc hN => ?_) ?_
  · walk_at "d"
    refine ⟨q, rfl, ?_⟩
    walk_at "d"
    exact hN
  rw [flat_single]
  have absok : ∀ q ∈ xs.map absR, Ok q := fun q hq => by
    obtain ⟨x, hx', rfl⟩ := List.mem_map.mp hq
    have := hx x hx'
    exact ⟨by rw [absR_num]; have := this.n; unfold Wee at *; omega, this.d⟩
  refine ⟨xs.map absR, rfl, absok, fun h0 => ?_, fun q hq hle => ?_⟩
  · have := congrArg List.length h0
    rw [List.length_map] at this
    exact absurd (List.length_eq_zero_iff.mp this) hne
  have hq0 : 0 ≤ q := by
    obtain ⟨x, _, rfl⟩ := List.mem_map.mp hq
    exact absR_nn x
  rw [maxR_eq hq0 (.inr hq) hle]
  clear hle hq hq0
  walk_at "d"
  refine seq_mk (for_map (fun p : Rat × Rat => PyData.tuple [fr p.1, fr p.2]) (xs.zip ps) (fun Q h => by
      walk_at "d"
      rw [pairD_map]; exact h)
    (fun i δ => ∃ r1 r2 : Option Sl, δ = [some (.dat (.list (xs.map fr))), some (.dat (.list (ps.map fr))), some (.dat (fr (maxR (xs.map absR)))), r1, r2] ∧ ∀ j z, j < i → (xs.zip ps)[j]? = some z → FarAt (maxR (xs.map absR)) z)
    ⟨_, _, rfl, fun j z hj => absurd hj (Nat.not_lt_zero _)⟩ ?_ ?_)
  · rintro i y δ hi ⟨r1, r2, rfl, hh⟩
    have hy := List.mem_of_getElem? hi
    have oy := zip_all hx z.ok y hy
    have nx : FarAt (maxR (xs.map absR)) y → ∀ j z, j < i + 1 → (xs.zip ps)[j]? = some z → FarAt (maxR (xs.map absR)) z := fun h j z hj e => by
      by_cases ej : j = i
      · subst ej
        rw [hi] at e
        cases e
        exact h
      · exact hh j z (by omega) e
    have bad : ¬ FarAt (maxR (xs.map absR)) y → Q (.dat (.bool false)) := fun h => k false ⟨fun h => absurd h (by decide), fun hf => by
      rcases hf with ⟨h1, _⟩ | ⟨_, h2, _⟩
      · exact absurd h1 c1
      · exact absurd (h2 y hy) h⟩
    walk_at "d"
    refine ⟨Rat, eRat, y.2, 0, rfl, rfl, fun b hb => ?_⟩
    cases b with
    | true =>
      walk_at "d"
      exact ⟨_, _, rfl, nx fun h => absurd (hb.mp rfl) h⟩
    | false =>
      have p0 : y.2 ≠ 0 := fun z => absurd (hb.mpr z) (by decide)
      walk_at "d"
      refine ⟨y.1, rfl, ?_⟩
      walk_at "d"
      refine ⟨Rat, eRat, absR y.1, maxR (xs.map absR), rfl, rfl, fun b hb => ?_⟩
      cases b with
      | false =>
        walk_at "d"
        exact bad fun h => absurd (hb.mpr (h p0).1) (by decide)
      | true =>
        walk_at "d"
        refine ⟨y.1, y.2, rfl, oy.1, oy.2, ?_⟩
        walk_at "d"
        by_cases hs : 0 < y.1 * y.2
        · rw [if_neg (by simp [hs])]
          exact ⟨_, _, rfl, nx fun _ => ⟨hb.mp rfl, hs⟩⟩
        · rw [if_pos (by simpa using hs)]
          exact bad fun h => absurd (h p0).2 hs
  · rintro δ ⟨r1, r2, rfl, hh⟩
    have hfar : ∀ z ∈ xs.zip ps, FarAt (maxR (xs.map absR)) z := fun y hy => by
      obtain ⟨j, hj⟩ := List.getElem?_of_mem hy
      exact hh j y (List.getElem?_eq_some_iff.mp hj).1 hj
    walk_at "d"
    refine lc_map fr fr (fun q : Rat => [absR q]) ps (by omega) (fun Q h => h) (fun q hq N acc hN => ?_) ?_
    · walk_at "d"
      refine ⟨q, rfl, ?_⟩
      walk_at "d"
      exact hN
    rw [flat_single]
    refine ⟨ps.map absR, rfl, z.absOk, z.totOk, ?_⟩
    walk_at "d"
    refine ⟨Rat, eRat, tot (ps.map absR), 1, rfl, rfl, fun b hb => k b ?_⟩
    rw [hb]
    constructor
    · intro h
      exact .inr ⟨c1, hfar, h⟩
    · rintro (⟨h, _⟩ | ⟨_, _, h⟩)
      · exact absurd h c1
      · exact h
noncomputable def wFairSum : DW := fun ds Q _ => ∃ (ms : List Mk) (xs ps : List Rat), ds = [.list (ms.map mk3), .list (xs.map fr), .list (ps.map fr)] ∧ ms.length ≤ 60 ∧ (∀ m ∈ ms, Wee m.2.2) ∧ (∀ p ∈ ps, Ok p) ∧ ∀ b : Bool, (b = true ↔ FairSum ms xs ps) → Q (.dat (.bool b))
theorem ok_is_fair_sum (T : Txt K mg A) : FnOk P w K mg base (CXE P w) 2 A.a_is_fair_sum A.d_is_fair_sum ["marks", "misses", "pulls"] (spW K wFairSum) := by
  have G_size_of := ok_size_of (P := P) (w := w) (base := base) T
  have G_is_less := ok_is_less (P := P) (w := w) (base := base) T
  refine okW T.F_is_fair_sum sc_is_fair_sum (fun ds Q E h => ?_) (fun cdv Ar outer s H E hr => ?_)
  · obtain ⟨_, _, _, rfl, _⟩ := h; rfl
  refine ⟨_, (pss_cons (ps_for PassesOwn.leaving rfl (pi_zip3 (K := K) rfl rfl T.n_zip (pa_cons (pv 0) (pa_cons (pv 1) (pa_cons (pv 2) pa_nil)))) (pgtK (K := K) (n := 3) rfl rfl (pgs_cons (pg_name (i := 3) sc_is_fair_sum.nd rfl (Or.inl rfl)) (pgs_cons (pg_name (i := 4) sc_is_fair_sum.nd rfl (Or.inl rfl)) (pgs_cons (pg_name (i := 5) sc_is_fair_sum.nd rfl (Or.inl rfl)) pgs_nil))))
        (pss_cons (ps_if (pt_val (pe_call G_is_less (hr.mono (by decide)) rfl T.m_is_less T.F_is_less.kp T.b_is_less .nil passE0 (pa_cons (pe_tup (pa_cons (pe_ix (ixtK (K := K) rfl) (pv 3) pe_int (fun _ _ => rfl)) (pa_cons pe_int pa_nil))) (pa_cons (pe_call G_size_of (hr.mono (by decide)) rfl T.m_size_of T.F_size_of.kp T.b_size_of .nil passE0 (pa_cons (pv 5) pa_nil)) pa_nil)))) (pss_one (ps_ret pe_bl)) pss_nil)
      (pss_cons (ps_if (PW.pt (pw_and (pt_cmpR op_gt (pe_ix (ixtK (K := K) rfl) (pv 4) pe_int (fun _ _ => rfl)) pe_int (nomark _)) (pw_and1 (pt_cmpR (neK (K := K) rfl hr.units) (pv 5) (pe_tup (pa_cons (pe_ix (ixtK (K := K) rfl) (pv 3) pe_int (fun _ _ => rfl)) (pa_cons pe_int pa_nil))) (nomark _))))) (pss_one (ps_ret pe_bl)) pss_nil)
      (pss_one (ps_if (PW.pt (pw_and (pt_cmpR op_lt (pe_ix (ixtK (K := K) rfl) (pv 4) pe_int (fun _ _ => rfl)) pe_int (nomark _)) (pw_and1 (pt_cmpR (neK (K := K) rfl hr.units) (pv 5) (pe_tup (pa_cons (pe_un un_neg (pe_ix (ixtK (K := K) rfl) (pv 3) pe_int (fun _ _ => rfl))) (pa_cons pe_int pa_nil))) (nomark _))))) (pss_one (ps_ret pe_bl)) pss_nil)))))
      (pss_one (ps_ret pe_bl))), _, (sv_seq (sv_for (is_zip3 (ev_var 0) (ev_var 1) (ev_var 2)) (gv_tup (gs_cons (gv_name 3) (gs_cons (gv_name 4) (gs_cons (gv_name 5) gs_nil))))
        (sv_seq (sv_if (tv_b (bv_ev (ev_call0 (av_cons (bv_ev (ev_tup (ae_cons (ev_ixk 2 (ev_var 3)) (ae_cons ev_int ae_nil)) (by decide))) (av_cons (bv_ev (ev_call0 (av_cons (bv_var 5) av_nil))) av_nil))))) (sv_ret (bv_ev ev_bl)) sv_next)
      (sv_cut (sv_if (tv_and (tv_test (bv_ev (ev_op ro_b0 (bv_ev (ev_ixk 0 (ev_var 4))) (bv_ev ev_int)))) (tv_test (bv_ev (ev_op ro_neD (bv_var 5) (bv_ev (ev_tup (ae_cons (ev_ixk 2 (ev_var 3)) (ae_cons ev_int ae_nil)) (by decide))))))) (sv_ret (bv_ev ev_bl)) sv_next)
      (sv_if (tv_and (tv_test (bv_ev (ev_op ro_b0 (bv_ev (ev_ixk 0 (ev_var 4))) (bv_ev ev_int)))) (tv_test (bv_ev (ev_op ro_neD (bv_var 5) (bv_ev (ev_tup (ae_cons (ev_neg (bv_ev (ev_ixk 2 (ev_var 3)))) (ae_cons ev_int ae_nil)) (by decide))))))) (sv_ret (bv_ev ev_bl)) sv_next))))
      (sv_ret (bv_ev ev_bl))), ?_⟩
  rintro ds Q X ⟨ms, xs, ps, rfl, hl, hw, hp, k⟩
  refine seq_mk (for_map (fun p : Mk × Rat × Rat => PyData.tuple [mk3 p.1, fr p.2.1, fr p.2.2]) (ms.zip (xs.zip ps)) (fun Q h => by
      walk_at "d"
      rw [triD_map]; exact h)
    (fun i δ => ∃ r1 r2 r3 : Option Sl, δ = [some (.dat (.list (ms.map mk3))), some (.dat (.list (xs.map fr))), some (.dat (.list (ps.map fr))), r1, r2, r3] ∧ ∀ j z, j < i → (ms.zip (xs.zip ps))[j]? = some z → SumAt (z.1.2.2 : Rat) z.2.1 z.2.2)
    ⟨_, _, _, rfl, fun j z hj => absurd hj (Nat.not_lt_zero _)⟩ ?_ ?_)
  · rintro i y δ hi ⟨r1, r2, r3, rfl, hh⟩
    have hy := List.mem_of_getElem? hi
    have o1 := zip_all (p := fun m : Mk => Wee m.2.2) (q := fun z : Rat × Rat => Ok z.2) hw (fun z hz => (zip_all (p := fun _ => True) (fun _ _ => trivial) hp z hz).2) y hy
    have nx : SumAt (y.1.2.2 : Rat) y.2.1 y.2.2 → ∀ j z, j < i + 1 → (ms.zip (xs.zip ps))[j]? = some z → SumAt (z.1.2.2 : Rat) z.2.1 z.2.2 := fun h j z hj e => by
      by_cases ej : j = i
      · subst ej
        rw [hi] at e
        cases e
        exact h
      · exact hh j z (by omega) e
    have bad : ¬ SumAt (y.1.2.2 : Rat) y.2.1 y.2.2 → Q (.dat (.bool false)) := fun h => k false ⟨fun h => absurd h (by decide), fun hf => absurd (hf y hy) h⟩
    have ow : Ok (y.1.2.2 : Rat) := ⟨o1.1, show Wee ((1 : Nat) : Int) from wee (by decide +kernel)⟩
    have oa : Ok (absR y.2.2) := ⟨by rw [absR_num]; have := o1.2.n; unfold Wee at *; omega, o1.2.d⟩
    walk_at "s"
    refine ⟨y.2.2, rfl, ?_⟩
    walk_at "d"
    refine ⟨(y.1.2.2 : Rat), absR y.2.2, rfl, ow, oa, ?_⟩
    walk_at "d"
    refine ite2 (fun c => ?_) (fun c => ?_)
    · exact bad fun h => absurd h.1 (Rat.not_le.mpr c)
    have c1 : absR y.2.2 ≤ (y.1.2.2 : Rat) := Rat.not_lt.mp c
    refine cut_mk (fun δ => (0 < y.2.1 → y.2.2 = (y.1.2.2 : Rat)) ∧ δ = [some (.dat (.list (ms.map mk3))), some (.dat (.list (xs.map fr))), some (.dat (.list (ps.map fr))), some (.dat (mk3 y.1)), some (.dat (fr y.2.1)), some (.dat (fr y.2.2))]) ?_ ?_
    · walk_at "d"
      refine ite2 (fun c2 => ?_) (fun c2 => ?_)
      · refine ⟨Rat, eRat, y.2.2, (y.1.2.2 : Rat), rfl, rfl, fun b hb => ?_⟩
        have n2 : 0 < y.2.1 := (num_pos_iff _).mp c2
        cases b with
        | true =>
          walk_at "d"
          exact fun _ => hb.mp rfl
        | false =>
          walk_at "d"
          exact bad fun h => absurd (hb.mpr (h.2.1 n2)) (by decide)
      · exact fun z => absurd ((num_pos_iff _).mpr z) c2
    rintro δ ⟨h2, rfl⟩
    walk_at "d"
    refine ite2 (fun c3 => ?_) (fun c3 => ?_)
    · refine ⟨Rat, eRat, y.2.2, ((-y.1.2.2 : Int) : Rat), rfl, rfl, fun b hb => ?_⟩
      rw [Rat.intCast_neg] at hb
      have n3 : y.2.1 < 0 := (num_neg_iff _).mp c3
      cases b with
      | true =>
        walk_at "d"
        exact ⟨_, _, _, rfl, nx ⟨c1, h2, fun _ => hb.mp rfl⟩⟩
      | false =>
        walk_at "d"
        exact bad fun h => absurd (hb.mpr (h.2.2 n3)) (by decide)
    · exact ⟨_, _, _, rfl, nx ⟨c1, h2, fun z => absurd ((num_neg_iff _).mpr z) c3⟩⟩
  · rintro δ ⟨r1, r2, r3, rfl, hh⟩
    walk_at "d"
    refine k true ⟨fun _ y hy => ?_, fun _ => rfl⟩
    obtain ⟨j, hj⟩ := List.getElem?_of_mem hy
    exact hh j y (List.getElem?_eq_some_iff.mp hj).1 hj
noncomputable def wFair (C : Addr) : DW := fun ds Q X => ∃ (d : PyData) (ms : List Mk) (row ps : List Rat) (L B W l b wd L2 B2 l2 b2 : Nat), ds = [d, .list (ms.map mk3), .list (row.map fr), .list (ps.map fr)] ∧ MSz L B W l b wd ms row ∧ PSz L2 B2 l2 b2 ps ∧ ms ≠ [] ∧ row.length = ms.length ∧ ps.length = ms.length ∧ (∀ kd : Str, d = .str kd → PyData.strOk kd = true) ∧
  (∀ kd : Str, d = .str kd → kd ∈ kdsL → ∀ b : Bool, (b = true ↔ Fair kd ms row ps) → Q (.dat (.bool b))) ∧ ((∀ kd : Str, d = .str kd → kd ∉ kdsL) → X C)
theorem zip_eq_all : ∀ {ps ws : List Rat}, ps.length = ws.length → ((∀ z ∈ ps.zip ws, z.1 = z.2) ↔ ps = ws)
  | [], [], _ => by simp
  | p :: ps, w :: ws, h => by
    have ih := zip_eq_all (ps := ps) (ws := ws) (by simpa using h)
    simp only [List.zip_cons_cons, List.forall_mem_cons, ih, List.cons.injEq]
theorem ok_is_fair (T : Txt K mg A) : FnOk P w K mg base (CXE P w) 6 A.a_is_fair A.d_is_fair ["kind", "marks", "row", "pulls"] (spW K (wFair A.x_NoKind)) := by
  have G_check_kind := ok_check_kind (P := P) (w := w) (base := base) T
  have G_misses_of := ok_misses_of (P := P) (w := w) (base := base) T
  have G_weighed_misses := ok_weighed_misses (P := P) (w := w) (base := base) T
  have G_is_fair_far := ok_is_fair_far (P := P) (w := w) (base := base) T
  have G_is_fair_sum := ok_is_fair_sum (P := P) (w := w) (base := base) T
  refine okW T.F_is_fair sc_is_fair (fun ds Q E h => ?_) (fun cdv Ar outer s H E hr => ?_)
  · obtain ⟨_, _, _, _, _, _, _, _, _, _, _, _, _, _, rfl, _⟩ := h; rfl
  refine ⟨_, (pss_cons (ps_expr (pe_call G_check_kind (hr.mono (by decide)) rfl T.m_check_kind T.F_check_kind.kp T.b_check_kind .nil pass_own (pa_cons (pv 0) pa_nil)))
      (pss_cons (ps_if (pt_cmpR op_eq (pv 0) pe_str (nomark _)) (pss_one (ps_ret (pe_call G_is_fair_far (hr.mono (by decide)) rfl T.m_is_fair_far T.F_is_fair_far.kp T.b_is_fair_far .nil passE0 (pa_cons (pe_call G_misses_of (hr.mono (by decide)) rfl T.m_misses_of T.F_misses_of.kp T.b_misses_of .nil passE0 (pa_cons (pv 1) (pa_cons (pv 2) pa_nil))) (pa_cons (pv 3) pa_nil))))) pss_nil)
      (pss_cons (ps_if (pt_cmpR op_eq (pv 0) pe_str (nomark _)) (pss_one (ps_ret (pe_call G_is_fair_sum (hr.mono (by decide)) rfl T.m_is_fair_sum T.F_is_fair_sum.kp T.b_is_fair_sum .nil passE0 (pa_cons (pv 1) (pa_cons (pe_call G_misses_of (hr.mono (by decide)) rfl T.m_misses_of T.F_misses_of.kp T.b_misses_of .nil passE0 (pa_cons (pv 1) (pa_cons (pv 2) pa_nil))) (pa_cons (pv 3) pa_nil)))))) pss_nil)
      (pss_one (ps_ret (pe_callB (allK (K := K) rfl rfl) rfl T.n_all Dl.boot_all (pa_cons (pe_lc (cap := [none, none]) (NC := ["pull", "one"]) rfl ⟨rfl, rfl, by decide +kernel, by decide +kernel, trivial, (fun _ h => nomatch h), rfl⟩ (pi_zip (K := K) rfl rfl T.n_zip (pa_cons (pv 3) (pa_cons (pe_call G_weighed_misses (hr.mono (by decide)) rfl T.m_weighed_misses T.F_weighed_misses.kp T.b_weighed_misses .nil passE0 (pa_cons (pv 1) (pa_cons (pv 2) pa_nil))) pa_nil))) (fun _ _ _ _ => (pgtK (K := K) (n := 2) rfl rfl (pgs_cons (pg_name (i := 0) (show List.Nodup (["pull", "one"] : List Str) by decide) rfl (Or.inl rfl)) (pgs_cons (pg_name (i := 1) (show List.Nodup (["pull", "one"] : List Str) by decide) rfl (Or.inl rfl)) pgs_nil)))) (fun _ _ _ _ => pts_nil) (fun _ _ _ _ => (pe_cmpR (eqK (K := K) rfl hr.units) (pv 0) (pv 1) (nomark _)))) pa_nil))))))), _, (sv_seq (sv_expr (bv_ev (ev_call (av_cons (bv_var 0) av_nil))))
      (sv_seq (sv_if (tv_test (bv_ev (ev_op ro_eq (bv_var 0) (bv_ev ev_str)))) (sv_ret (bv_ev (ev_call0 (av_cons (bv_ev (ev_ov (ov_call0 (av_cons (bv_var 1) (av_cons (bv_var 2) av_nil))))) (av_cons (bv_var 3) av_nil))))) sv_next)
      (sv_seq (sv_if (tv_test (bv_ev (ev_op ro_eq (bv_var 0) (bv_ev ev_str)))) (sv_ret (bv_ev (ev_call0 (av_cons (bv_var 1) (av_cons (bv_ev (ev_ov (ov_call0 (av_cons (bv_var 1) (av_cons (bv_var 2) av_nil))))) (av_cons (bv_var 3) av_nil)))))) sv_next)
      (sv_ret (bv_ev (ev_cb rb_all (av_cons (bv_ev (ev_ov (ov_lc (ie_zip (lv_var 3) (lv_ov (ov_call0 (av_cons (bv_var 1) (av_cons (bv_var 2) av_nil))))) (gv_tup (gs_cons (gv_name 0) (gs_cons (gv_name 1) gs_nil))) tv_yes (ev_op ro_eqD (bv_var 0) (bv_var 1)) (by decide) (by decide)))) av_nil))))))), ?_⟩
  rintro ds Q X ⟨d, ms, row, ps, L, B, W, l, b, wd, L2, B2, l2, b2, rfl, z, y, hne, hlr, hlp, ok, k, kx⟩
  have zl := z.len
  have hml : (missR ms row).length = ms.length := by unfold missR; rw [List.length_zipWith]; omega
  have hwl : (wmissR ms row).length = ms.length := by unfold wmissR; rw [List.length_zipWith]; omega
  walk_at "s"
  refine ⟨d, rfl, ok, ?_, kx⟩
  rintro ⟨kd, rfl, hkd⟩
  have kq := k kd rfl hkd
  unfold Fair at kq
  walk_at "s"
  refine ite2 (fun c => ?_) (fun c => ?_)
  · have ek : kd = "far" := c
    rw [if_pos ek] at kq
    walk_at "d"
    refine ⟨ms, row, rfl, by omega, z.hOk, z.rOk, ?_⟩
    walk_at "d"
    refine ⟨frs_flat _, missR ms row, ps, L2, B2, l2, b2, rfl, y, by omega, fun h0 => ?_, z.missOk, fun b hb => ?_⟩
    · rw [h0] at hml
      exact hne (List.length_eq_zero_iff.mp hml.symm)
    · walk_at "d"
      exact kq b hb
  have nk : kd ≠ "far" := c
  rw [if_neg nk] at kq
  walk_at "s"
  refine ite2 (fun c => ?_) (fun c => ?_)
  · have ek : kd = "sum" := c
    rw [if_pos ek] at kq
    walk_at "d"
    refine ⟨ms, row, rfl, by omega, z.hOk, z.rOk, ?_⟩
    walk_at "d"
    refine ⟨frs_flat _, ms, missR ms row, ps, rfl, zl, fun m hm => (z.wOk hm).n, y.ok, fun b hb => ?_⟩
    walk_at "d"
    exact kq b hb
  · have nk2 : kd ≠ "sum" := c
    rw [if_neg nk2] at kq
    walk_at "d"
    refine lc_map (fun p : Rat × Rat => PyData.tuple [fr p.1, fr p.2]) PyData.bool (fun p : Rat × Rat => [decide (p.1 = p.2)]) (ps.zip (wmissR ms row)) (by rw [List.length_zip]; omega) (fun Q h => by
        walk_at "d"
        refine ⟨ms, row, L, B, W, l, b, wd, rfl, z, ?_⟩
        walk_at "d"
        refine ⟨frs_flat _, ?_⟩
        rw [pairD_map]; exact h) (fun p hp N acc hN => ?_) ?_
    · walk_at "d"
      refine ⟨Rat, eRat, p.1, p.2, rfl, rfl, fun b hb => ?_⟩
      rw [bool_dec hb]
      exact hN
    rw [flat_single]
    walk_at "d"
    refine ⟨_, rfl, ?_⟩
    walk_at "d"
    refine kq _ ?_
    rw [← zip_eq_all (by omega)]
    simp
noncomputable abbrev rowR (nu : List Rat) (ms : List Mk) : List Rat := ms.map fun m => hgt nu m.1
noncomputable def wShown (C : Addr) : DW := fun ds Q X => ∃ (d : PyData) (ms : List Mk) (nu ps : List Rat) (L B W l b wd L2 B2 l2 b2 M D m c a1 b1 : Nat), ds = [d, .list (ms.map mk3), .list (nu.map fr), .list (ps.map fr)] ∧ MSz L B W l b wd ms (rowR nu ms) ∧ PSz L2 B2 l2 b2 ps ∧ TSz L2 B2 M D l2 b2 m c nu.length ps (ms.map (·.1)) ∧ ms ≠ [] ∧ ps.length = ms.length ∧ 1 ≤ nu.length ∧ nu.length ≤ 4 ∧
  (∀ n ∈ nu, Dg a1 n) ∧ (∀ m ∈ ms, Dg b1 m.1) ∧ 4 * (a1 + b1 + 2) ≤ 2300 ∧ (∀ kd : Str, d = .str kd → PyData.strOk kd = true) ∧
  (∀ kd : Str, d = .str kd → kd ∈ kdsL → ∀ b : Bool, (b = true ↔ Fair kd ms (rowR nu ms) ps ∧ EvenBy ps (ms.map (·.1)) (nu.length - 1)) → Q (.dat (.bool b))) ∧ ((∀ kd : Str, d = .str kd → kd ∉ kdsL) → X C)
theorem ok_bend_shown (T : Txt K mg A) : FnOk P w K mg base (CXE P w) 7 A.a_bend_shown A.d_bend_shown ["kind", "marks", "numbers", "pulls"] (spW K (wShown A.x_NoKind)) := by
  have G_check_kind := ok_check_kind (P := P) (w := w) (base := base) T
  have G_is_fair := ok_is_fair (P := P) (w := w) (base := base) T
  have G_row_of := ok_row_of (P := P) (w := w) (base := base) T
  have G_is_even := ok_is_even (P := P) (w := w) (base := base) T
  refine okW T.F_bend_shown sc_bend_shown (fun ds Q E h => ?_) (fun cdv Ar outer s H E hr => ?_)
  · obtain ⟨_, _, _, _, _, _, _, _, _, _, _, _, _, _, _, _, _, _, _, _, rfl, _⟩ := h; rfl
  refine ⟨_, (pss_cons (ps_expr (pe_call G_check_kind (hr.mono (by decide)) rfl T.m_check_kind T.F_check_kind.kp T.b_check_kind .nil pass_own (pa_cons (pv 0) pa_nil)))
      (pss_cons (ps_set (i := 4) sc_bend_shown.nd rfl (Or.inl rfl) (pe_call G_is_fair (hr.mono (by decide)) rfl T.m_is_fair T.F_is_fair.kp T.b_is_fair .nil pass_own (pa_cons (pv 0) (pa_cons (pv 1) (pa_cons (pe_call G_row_of (hr.mono (by decide)) rfl T.m_row_of T.F_row_of.kp T.b_row_of .nil passE0 (pa_cons (pv 2) (pa_cons (pv 1) pa_nil))) (pa_cons (pv 3) pa_nil))))))
      (pss_one (ps_ret (pe_and (pv 4) (pe_one (pe_call G_is_even (hr.mono (by decide)) rfl T.m_is_even T.F_is_even.kp T.b_is_even .nil passE0 (pa_cons (pv 1) (pa_cons (pv 3) (pa_cons (pe_op op_sub (pe_callB (lenK (K := K) rfl) rfl T.n_len PySem.boot_len (pa_cons (pv 2) pa_nil)) pe_int) pa_nil)))))))))), _, (sv_seq (sv_expr (bv_ev (ev_call (av_cons (bv_var 0) av_nil))))
      (sv_seq (sv_asg (ev_call (av_cons (bv_var 0) (av_cons (bv_var 1) (av_cons (bv_ev (ev_ov (ov_call0 (av_cons (bv_var 2) (av_cons (bv_var 1) av_nil))))) (av_cons (bv_var 3) av_nil))))) (gv_name 4))
      (sv_ret (bv_ev (ev_and (bv_var 4) (ev_call0 (av_cons (bv_var 1) (av_cons (bv_var 3) (av_cons (bv_ev (ev_op ro_i0 (bv_ev (ev_cb rb_len (av_cons (bv_var 2) av_nil))) (bv_ev ev_int))) av_nil))))))))), ?_⟩
  rintro ds Q X ⟨d, ms, nu, ps, L, B, W, l, b, wd, L2, B2, l2, b2, M, D, m, c, a1, b1, rfl, z, y, tz, hne, hlp, n1, n4, hn, hx, fit, ok, k, kx⟩
  have zl := z.len
  walk_at "s"
  refine ⟨d, rfl, ok, ?_, kx⟩
  rintro ⟨kd, rfl, hkd⟩
  have kq := k kd rfl hkd
  walk_at "s"
  refine ⟨nu, ms, a1, b1, rfl, n4, by omega, hn, hx, fit, ?_⟩
  walk_at "d"
  refine ⟨frs_flat _, .str kd, ms, rowR nu ms, ps, L, B, W, l, b, wd, L2, B2, l2, b2, rfl, z, y, hne, by rw [List.length_map], hlp, ok, fun kd2 e2 hk2 b hb => ?_, fun h => absurd hkd (h kd rfl)⟩
  cases e2
  cases b with
  | false =>
    walk_at "d"
    exact kq false ⟨fun h => absurd h (by decide), fun h => absurd (hb.mpr h.1) (by decide)⟩
  | true =>
    walk_at "d"
    refine ⟨ms, ps, nu.length - 1, L2, B2, M, D, l2, b2, m, c, by rw [show (nu.length : Int) - 1 = ((nu.length - 1 : Nat) : Int) by omega], by omega, by rw [show nu.length - 1 + 1 = nu.length by omega]; exact tz, fun b2 hb2 => ?_⟩
    walk_at "d"
    refine kq b2 ?_
    rw [hb2]
    exact ⟨fun h => ⟨hb.mp rfl, h⟩, fun h => h.2⟩
end
theorem sumN_add (f g : Nat → Rat) : ∀ n, sumN n (fun t => f t + g t) = sumN n f + sumN n g
  | 0 => by show (0 : Rat) = 0 + 0; grind
  | n + 1 => by rw [sumN, sumN, sumN, sumN_add f g n]; grind
noncomputable def mulLin (c : Rat) (cs : List Rat) : List Rat := List.zipWith (fun p q => p - q) (0 :: cs) (cs.map (fun q => c * q) ++ [0])
theorem mulLin_len (c : Rat) (cs : List Rat) : (mulLin c cs).length = cs.length + 1 := by
  unfold mulLin
  rw [List.length_zipWith, List.length_cons, List.length_append, List.length_map]
  simp
theorem hgt_map (c x : Rat) : ∀ cs : List Rat, hgt (cs.map fun q => c * q) x = c * hgt cs x
  | [] => by rw [List.map_nil, hgt_nil, Rat.mul_zero]
  | q :: cs => by rw [List.map_cons, hgt_cons, hgt_cons, hgt_map c x cs]; grind
theorem mulLin_hgt (c x : Rat) (cs : List Rat) : hgt (mulLin c cs) x = (x - c) * hgt cs x := by
  unfold mulLin
  rw [hgt_sub _ _ _ (by rw [List.length_cons, List.length_append, List.length_map]; rfl), hgt_cons, hgt_snoc, hgt_map]
  grind
noncomputable def lagB : List Rat → List Rat
  | [] => [1]
  | c :: xs => mulLin c (lagB xs)
theorem lagB_len : ∀ xs : List Rat, (lagB xs).length = xs.length + 1
  | [] => rfl
  | c :: xs => by rw [lagB, mulLin_len, lagB_len xs, List.length_cons]
noncomputable def prodL (x : Rat) : List Rat → Rat
  | [] => 1
  | c :: xs => (x - c) * prodL x xs
theorem lagB_hgt (x : Rat) : ∀ xs : List Rat, hgt (lagB xs) x = prodL x xs
  | [] => by show hgt [1] x = 1; rw [hgt_cons, hgt_nil]; grind
  | c :: xs => by rw [lagB, mulLin_hgt, lagB_hgt x xs, prodL]
theorem prodL_zero {x : Rat} : ∀ {xs : List Rat}, x ∈ xs → prodL x xs = 0
  | c :: xs, h => by
    rw [prodL]
    rcases List.mem_cons.mp h with rfl | h
    · grind
    · rw [prodL_zero h]; grind
theorem prodL_ne {x : Rat} : ∀ {xs : List Rat}, x ∉ xs → prodL x xs ≠ 0
  | [], _ => by show (1 : Rat) ≠ 0; decide
  | c :: xs, h => by
    rw [prodL]
    intro z
    rcases Rat.mul_eq_zero.mp z with z | z
    · exact h (by rw [show x = c by grind]; exact List.mem_cons_self)
    · exact prodL_ne (fun q => h (List.mem_cons_of_mem _ q)) z
theorem sumN_swap (f : Nat → Nat → Rat) (m : Nat) : ∀ n, sumN n (fun k => sumN m fun t => f k t) = sumN m fun t => sumN n fun k => f k t
  | 0 => by
    show (0 : Rat) = _
    exact (sumN_zero fun _ _ => rfl).symm
  | n + 1 => by
    rw [sumN, sumN_swap f m n]
    have e : ∀ m, sumN m (fun t => sumN n fun k => f k t) + sumN m (fun t => f n t) = sumN m fun t => sumN (n + 1) fun k => f k t := fun m => by
      induction m with
      | zero => show (0 : Rat) + 0 = 0; grind
      | succ m ih => rw [sumN, sumN, sumN, ← ih, sumN]; grind
    exact e m
theorem hgt_sumN {m : Nat} {b : List Rat} (h : b.length = m) (x : Rat) : hgt b x = sumN m fun k => b.getD k 0 * x ^ k := by
  have e := poly_self h
  rw [← e]
  have g : ∀ n (y : Nat → Rat), hgt (polyOf n y) x = sumN n fun k => y k * x ^ k := fun n y => by
    induction n with
    | zero => rfl
    | succ n ih => rw [poly_hgt, ih, sumN]
  rw [g]
  refine sumN_congr fun k hk => ?_
  rw [e]
noncomputable def lagP (xs : List Rat) (y : Nat → Rat) : List Rat := polyOf xs.length fun k => sumN xs.length fun t => (y t / prodL (xs.getD t 0) (xs.eraseIdx t)) * (lagB (xs.eraseIdx t)).getD k 0
theorem lagP_hgt {xs : List Rat} (nd : xs.Nodup) (y : Nat → Rat) {s : Nat} (hs : s < xs.length) : hgt (lagP xs y) (xs.getD s 0) = y s := by
  have lb : ∀ t, t < xs.length → (lagB (xs.eraseIdx t)).length = xs.length := fun t ht => by
    rw [lagB_len, List.length_eraseIdx, if_pos ht]; omega
  unfold lagP
  have g : ∀ n (z : Nat → Rat) (x : Rat), hgt (polyOf n z) x = sumN n fun k => z k * x ^ k := fun n z x => by
    induction n with
    | zero => rfl
    | succ n ih => rw [poly_hgt, ih, sumN]
  rw [g]
  have e1 : sumN xs.length (fun k => sumN xs.length (fun t => (y t / prodL (xs.getD t 0) (xs.eraseIdx t)) * (lagB (xs.eraseIdx t)).getD k 0) * xs.getD s 0 ^ k) = sumN xs.length fun t => (y t / prodL (xs.getD t 0) (xs.eraseIdx t)) * prodL (xs.getD s 0) (xs.eraseIdx t) := by
    have e2 : ∀ k, k < xs.length → sumN xs.length (fun t => (y t / prodL (xs.getD t 0) (xs.eraseIdx t)) * (lagB (xs.eraseIdx t)).getD k 0) * xs.getD s 0 ^ k = sumN xs.length fun t => (y t / prodL (xs.getD t 0) (xs.eraseIdx t)) * ((lagB (xs.eraseIdx t)).getD k 0 * xs.getD s 0 ^ k) := fun k _ => by
      rw [Rat.mul_comm, ← sumN_mul]
      exact sumN_congr fun t _ => by grind
    rw [sumN_congr e2, sumN_swap]
    refine sumN_congr fun t ht => ?_
    rw [sumN_mul, ← hgt_sumN (lb t ht), lagB_hgt]
  rw [e1]
  have gs : xs.getD s 0 = xs[s] := getD_of hs
  have mem : ∀ t, t < xs.length → t ≠ s → xs[s] ∈ xs.eraseIdx t := fun t ht hts => by
    rw [List.mem_eraseIdx_iff_getElem]
    exact ⟨s, hs, fun z => hts z.symm, rfl⟩
  have nm : xs[s] ∉ xs.eraseIdx s := fun h => by
    rw [List.mem_eraseIdx_iff_getElem] at h
    obtain ⟨j, hj, hjs, e⟩ := h
    have := List.pairwise_iff_getElem.mp nd
    rcases Nat.lt_or_gt_of_ne hjs with c | c
    · exact this j s hj hs c e
    · exact this s j hs hj c e.symm
  rw [sumN_one hs fun t ht hts => by
    rw [gs, prodL_zero (mem t ht hts), Rat.mul_zero]]
  rw [gs]
  exact Rat.div_mul_cancel (prodL_ne nm)
theorem lagP_len (xs : List Rat) (y : Nat → Rat) : (lagP xs y).length = xs.length := poly_len _ _
noncomputable abbrev Rw := Nat → Rat
noncomputable def tlR (r : Rw) : Rw := fun j => r (j + 1)
noncomputable def dE (D : List Rw → Rat) : List Rw → List Rw → Rat
  | _, [] => 0
  | pre, r :: rest => r 0 * D ((pre ++ rest).map tlR) - dE D (pre ++ [r]) rest
noncomputable def dD : Nat → List Rw → Rat
  | 0, _ => 1
  | n + 1, rows => dE (dD n) [] rows
noncomputable def adR (r s : Rw) (c : Rat) : Rw := fun j => r j + c * s j
theorem tl_ad (r s : Rw) (c : Rat) : tlR (adR r s c) = adR (tlR r) (tlR s) c := rfl
noncomputable def LinD (n : Nat) (D : List Rw → Rat) : Prop := ∀ (a b : List Rw) (r s : Rw) (c : Rat), a.length + b.length + 1 = n → D (a ++ adR r s c :: b) = D (a ++ r :: b) + c * D (a ++ s :: b)
noncomputable def AdjD (n : Nat) (D : List Rw → Rat) : Prop := ∀ (a b : List Rw) (r : Rw), a.length + b.length + 2 = n → D (a ++ r :: r :: b) = 0
section
variable {n : Nat} {D : List Rw → Rat}
theorem dE_linP (h : LinD n D) (r s : Rw) (c : Rat) : ∀ (rest p1 p2 : List Rw), p1.length + p2.length + rest.length = n → dE D (p1 ++ adR r s c :: p2) rest = dE D (p1 ++ r :: p2) rest + c * dE D (p1 ++ s :: p2) rest
  | [], p1, p2, _ => by simp only [dE]; grind
  | x :: rest, p1, p2, hl => by
    rw [List.length_cons] at hl
    have ih := dE_linP h r s c rest p1 (p2 ++ [x]) (by rw [List.length_append]; simp; omega)
    have e : ∀ t : Rw, (p1 ++ t :: p2 ++ rest).map tlR = p1.map tlR ++ tlR t :: (p2 ++ rest).map tlR := fun t => by simp
    have h1 := h (p1.map tlR) ((p2 ++ rest).map tlR) (tlR r) (tlR s) c (by simp; omega)
    rw [← tl_ad] at h1
    simp only [dE, e, List.append_assoc, List.cons_append, h1] at ih ⊢
    rw [ih]
    grind
theorem dE_linR (h : LinD n D) (r s : Rw) (c : Rat) (b2 : List Rw) : ∀ (b1 pre : List Rw), pre.length + b1.length + b2.length = n → dE D pre (b1 ++ adR r s c :: b2) = dE D pre (b1 ++ r :: b2) + c * dE D pre (b1 ++ s :: b2)
  | [], pre, hl => by
    have h1 := dE_linP h r s c b2 pre [] (by simpa using hl)
    simp only [List.nil_append, dE] at h1 ⊢
    rw [h1]
    show (r 0 + c * s 0) * _ - _ = _
    grind
  | x :: b1, pre, hl => by
    rw [List.length_cons] at hl
    have ih := dE_linR h r s c b2 b1 (pre ++ [x]) (by rw [List.length_append]; simp; omega)
    have e : ∀ t : Rw, (pre ++ (b1 ++ t :: b2)).map tlR = (pre ++ b1).map tlR ++ tlR t :: b2.map tlR := fun t => by simp
    have h1 := h ((pre ++ b1).map tlR) (b2.map tlR) (tlR r) (tlR s) c (by simp; omega)
    rw [← tl_ad] at h1
    simp only [List.cons_append, dE, e, h1, ih]
    grind
theorem dE_adjP (h : AdjD n D) (r : Rw) : ∀ (rest p1 p2 : List Rw), p1.length + p2.length + rest.length + 1 = n → dE D (p1 ++ r :: r :: p2) rest = 0
  | [], _, _, _ => rfl
  | x :: rest, p1, p2, hl => by
    rw [List.length_cons] at hl
    have ih := dE_adjP h r rest p1 (p2 ++ [x]) (by rw [List.length_append]; simp; omega)
    have e : (p1 ++ r :: r :: p2 ++ rest).map tlR = p1.map tlR ++ tlR r :: tlR r :: (p2 ++ rest).map tlR := by simp
    have h1 := h (p1.map tlR) ((p2 ++ rest).map tlR) (tlR r) (by simp; omega)
    simp only [dE, e, List.append_assoc, List.cons_append, h1] at ih ⊢
    rw [ih]
    grind
theorem dE_adjR (h : AdjD n D) (r : Rw) (b2 : List Rw) : ∀ (b1 pre : List Rw), pre.length + b1.length + b2.length + 1 = n → dE D pre (b1 ++ r :: r :: b2) = 0
  | [], pre, hl => by
    have h1 := dE_adjP h r b2 pre [] (by simpa using hl)
    simp only [List.nil_append, dE, List.append_assoc, List.cons_append] at h1 ⊢
    rw [h1]
    grind
  | x :: b1, pre, hl => by
    rw [List.length_cons] at hl
    have ih := dE_adjR h r b2 b1 (pre ++ [x]) (by rw [List.length_append]; simp; omega)
    have e : (pre ++ (b1 ++ r :: r :: b2)).map tlR = (pre ++ b1).map tlR ++ tlR r :: tlR r :: b2.map tlR := by simp
    have h1 := h ((pre ++ b1).map tlR) (b2.map tlR) (tlR r) (by simp; omega)
    simp only [List.cons_append, dE, e, h1, ih]
    grind
theorem dE_zero : ∀ (rest pre : List Rw), (∀ r ∈ rest, r 0 = 0) → dE D pre rest = 0
  | [], _, _ => rfl
  | r :: rest, pre, h => by
    rw [dE, h r List.mem_cons_self, dE_zero rest _ fun x hx => h x (List.mem_cons_of_mem _ hx)]
    grind
end
theorem dD_lin : ∀ n, LinD n (dD n)
  | 0 => fun a b r s c h => by omega
  | n + 1 => fun a b r s c h => dE_linR (dD_lin n) r s c b a [] (by simp; omega)
theorem dD_adj : ∀ n, AdjD n (dD n)
  | 0 => fun a b r h => by omega
  | n + 1 => fun a b r h => dE_adjR (dD_adj n) r b a [] (by simp; omega)
theorem dD_swap {n : Nat} {a b : List Rw} {r s : Rw} (h : a.length + b.length + 2 = n) : dD n (a ++ r :: s :: b) = - dD n (a ++ s :: r :: b) := by
  have h0 := dD_adj n a b (adR r s 1) h
  rw [dD_lin n a (adR r s 1 :: b) r s 1 (by simp; omega)] at h0
  have e : ∀ t : Rw, a ++ t :: adR r s 1 :: b = (a ++ [t]) ++ adR r s 1 :: b := fun t => by simp
  rw [e r, e s, dD_lin n (a ++ [r]) b r s 1 (by simp; omega), dD_lin n (a ++ [s]) b r s 1 (by simp; omega)] at h0
  have e2 : ∀ t u : Rw, (a ++ [t]) ++ u :: b = a ++ t :: u :: b := fun t u => by simp
  rw [e2, e2, e2, e2, dD_adj n a b r h, dD_adj n a b s h] at h0
  grind
theorem dD_same {n : Nat} {b : List Rw} {r : Rw} : ∀ (m a : List Rw), a.length + m.length + b.length + 2 = n → dD n (a ++ r :: (m ++ r :: b)) = 0
  | [], a, h => dD_adj n a b r (by simpa using h)
  | x :: m, a, h => by
    rw [List.length_cons] at h
    have ih := dD_same (n := n) (b := b) (r := r) m (a ++ [x]) (by simp; omega)
    rw [List.cons_append, dD_swap (by simp; omega)]
    rw [List.append_assoc] at ih
    have ih2 : dD n (a ++ x :: r :: (m ++ r :: b)) = 0 := ih
    rw [ih2]
    grind
theorem dD_front {n : Nat} {b : List Rw} {p : Rw} : ∀ (a c : List Rw), c.length + a.length + b.length + 1 = n → (dD n (c ++ (a ++ p :: b)) = 0 ↔ dD n (c ++ p :: (a ++ b)) = 0)
  | [], c, _ => Iff.rfl
  | x :: a, c, h => by
    rw [List.length_cons] at h
    have ih := dD_front (n := n) (b := b) (p := p) a (c ++ [x]) (by simp; omega)
    rw [List.append_assoc, List.append_assoc] at ih
    have ih2 : dD n (c ++ x :: (a ++ p :: b)) = 0 ↔ dD n (c ++ x :: p :: (a ++ b)) = 0 := ih
    rw [List.cons_append, List.cons_append, ih2, dD_swap (by simp; omega)]
    constructor
    · intro z; grind
    · intro z; rw [z]; grind
noncomputable def clrR (p r : Rw) : Rw := adR r p (-(r 0 / p 0))
theorem dD_clear {n : Nat} {p : Rw} : ∀ (rest dn : List Rw), dn.length + rest.length + 1 = n → dD n (p :: (dn ++ rest)) = dD n (p :: (dn ++ rest.map (clrR p)))
  | [], _, _ => rfl
  | r :: rest, dn, h => by
    rw [List.length_cons] at h
    have ih := dD_clear (n := n) (p := p) rest (dn ++ [clrR p r]) (by simp; omega)
    have e := dD_lin n (p :: dn) rest r p (-(r 0 / p 0)) (by simp; omega)
    have z := dD_same (n := n) (b := rest) (r := p) dn [] (by simp; omega)
    have z2 : dD n ((p :: dn) ++ p :: rest) = 0 := z
    rw [z2, Rat.mul_zero, Rat.add_zero] at e
    rw [List.append_assoc, List.append_assoc] at ih
    rw [List.map_cons]
    exact e.symm.trans ih
theorem clr_zero {p r : Rw} (h : p 0 ≠ 0) : clrR p r 0 = 0 := by
  show r 0 + -(r 0 / p 0) * p 0 = 0
  have : r 0 / p 0 * p 0 = r 0 := Rat.div_mul_cancel h
  grind
theorem dD_pivot {n : Nat} {p : Rw} {rest : List Rw} (hl : rest.length = n) (h : p 0 ≠ 0) : dD (n + 1) (p :: rest) = p 0 * dD n ((rest.map (clrR p)).map tlR) := by
  have e := dD_clear (n := n + 1) (p := p) rest [] (by simp; omega)
  rw [List.nil_append, List.nil_append] at e
  rw [e]
  show dE (dD n) [] (p :: rest.map (clrR p)) = _
  rw [dE, dE_zero _ _ fun r hr => by
    obtain ⟨x, _, rfl⟩ := List.mem_map.mp hr
    exact clr_zero h, List.nil_append]
  grind
theorem sumN_front (f : Nat → Rat) : ∀ n, sumN (n + 1) f = f 0 + sumN n fun j => f (j + 1)
  | 0 => by simp only [sumN]; grind
  | n + 1 => by
    have ih := sumN_front f n
    rw [sumN, ih]
    simp only [sumN]
    grind
noncomputable def Kr (n : Nat) (rows : List Rw) (y : Rw) : Prop := ∀ r ∈ rows, sumN n (fun j => r j * y j) = 0
theorem sum_clr (n : Nat) (p r y : Rw) : sumN n (fun j => clrR p r j * y j) = sumN n (fun j => r j * y j) - r 0 / p 0 * sumN n (fun j => p j * y j) := by
  rw [← sumN_lin]
  refine sumN_congr fun j _ => ?_
  show (r j + -(r 0 / p 0) * p j) * y j = _
  grind
theorem det_ker : ∀ (n : Nat) (rows : List Rw), rows.length = n → (dD n rows = 0 ↔ ∃ y : Rw, (∃ j, j < n ∧ y j ≠ 0) ∧ Kr n rows y)
  | 0, rows, _ => ⟨fun h => absurd (show (1 : Rat) = 0 from h) (by decide), fun ⟨y, ⟨j, hj, _⟩, _⟩ => absurd hj (Nat.not_lt_zero _)⟩
  | n + 1, rows, hl => by
    by_cases hp : ∃ p ∈ rows, p 0 ≠ 0
    · obtain ⟨p, hpm, p0⟩ := hp
      obtain ⟨a, b, rfl⟩ := List.append_of_mem hpm
      have hab : (a ++ b).length = n := by simp at hl ⊢; omega
      have e1 := dD_front (n := n + 1) (b := b) (p := p) a [] (by simp; simp at hab; omega)
      rw [List.nil_append, List.nil_append] at e1
      have ih := det_ker n (((a ++ b).map (clrR p)).map tlR) (by simpa using hab)
      have e2 : p 0 * dD n (((a ++ b).map (clrR p)).map tlR) = 0 ↔ dD n (((a ++ b).map (clrR p)).map tlR) = 0 :=
        ⟨fun h => (Rat.mul_eq_zero.mp h).resolve_left p0, fun h => by rw [h, Rat.mul_zero]⟩
      rw [e1, dD_pivot hab p0, e2, ih]
      have mem : ∀ r, r ∈ a ++ b ↔ r ∈ a ++ b := fun _ => Iff.rfl
      have krs : ∀ (r y : Rw), sumN (n + 1) (fun j => clrR p r j * y j) = sumN n fun j => tlR (clrR p r) j * tlR y j := fun r y => by
        rw [sumN_front, clr_zero p0, Rat.zero_mul, Rat.zero_add]
        rfl
      constructor
      · rintro ⟨z, ⟨j, hj, zj⟩, hz⟩
        refine ⟨fun j => match j with
          | 0 => -(sumN n fun j => p (j + 1) * z j) / p 0
          | j + 1 => z j, ⟨j + 1, by omega, zj⟩, fun r hr => ?_⟩
        generalize hy : (fun j => match j with
          | 0 => -(sumN n fun j => p (j + 1) * z j) / p 0
          | j + 1 => z j : Rw) = y
        have y0 : y 0 = -(sumN n fun j => p (j + 1) * z j) / p 0 := by rw [← hy]
        have yt : tlR y = z := by rw [← hy]; rfl
        have py : sumN (n + 1) (fun j => p j * y j) = 0 := by
          rw [sumN_front, y0]
          have e : (sumN n fun j => p (j + 1) * y (j + 1)) = sumN n fun j => p (j + 1) * z j := by rw [← yt]; rfl
          rw [e]
          have : -(sumN n fun j => p (j + 1) * z j) / p 0 * p 0 = -(sumN n fun j => p (j + 1) * z j) := Rat.div_mul_cancel p0
          grind
        rcases List.mem_append.mp hr with h | h
        · have h1 := hz _ (List.mem_map.mpr ⟨_, List.mem_map.mpr ⟨r, List.mem_append_left _ h, rfl⟩, rfl⟩)
          rw [← yt, ← krs r y, sum_clr, py] at h1
          grind
        · rcases List.mem_cons.mp h with rfl | h
          · exact py
          · have h1 := hz _ (List.mem_map.mpr ⟨_, List.mem_map.mpr ⟨r, List.mem_append_right _ h, rfl⟩, rfl⟩)
            rw [← yt, ← krs r y, sum_clr, py] at h1
            grind
      · rintro ⟨y, ⟨j, hj, yj⟩, hy⟩
        have py := hy p (List.mem_append_right _ List.mem_cons_self)
        have all : ∀ r ∈ a ++ b, sumN (n + 1) (fun j => r j * y j) = 0 := fun r hr => by
          rcases List.mem_append.mp hr with h | h
          · exact hy r (List.mem_append_left _ h)
          · exact hy r (List.mem_append_right _ (List.mem_cons_of_mem _ h))
        refine ⟨tlR y, ?_, fun r hr => ?_⟩
        · refine Classical.byContradiction fun hn => ?_
          have z : ∀ i, i < n → y (i + 1) = 0 := fun i hi => Classical.byContradiction fun h => hn ⟨i, hi, h⟩
          cases j with
          | succ i => exact yj (z i (by omega))
          | zero =>
            rw [sumN_front, sumN_zero fun i hi => by rw [z i hi, Rat.mul_zero], Rat.add_zero] at py
            rcases Rat.mul_eq_zero.mp py with h | h
            · exact p0 h
            · exact yj h
        · obtain ⟨q, hq, rfl⟩ := List.mem_map.mp hr
          obtain ⟨r, hr2, rfl⟩ := List.mem_map.mp hq
          rw [← krs r y, sum_clr, all r hr2, py]
          grind
    · have z : ∀ r ∈ rows, r 0 = 0 := fun r hr => Classical.byContradiction fun h => hp ⟨r, hr, h⟩
      refine ⟨fun _ => ⟨fun j => if j = 0 then 1 else 0, ⟨0, by omega, by decide⟩, fun r hr => ?_⟩, fun _ => dE_zero rows [] z⟩
      rw [sumN_one (i := 0) (by omega) fun j _ hj => by dsimp only; rw [if_neg hj, Rat.mul_zero], z r hr, Rat.zero_mul]
theorem dD_nil {n : Nat} {a b : List Rw} (h : a.length + b.length + 1 = n) : dD n (a ++ (fun _ => 0) :: b) = 0 := by
  have h0 := dD_lin n a b (fun _ => 0) (fun _ => 0) 1 h
  have e : adR (fun _ => 0) (fun _ => 0) 1 = fun _ => (0 : Rat) := by funext j; show (0 : Rat) + 1 * 0 = 0; grind
  rw [e] at h0
  grind
theorem dD_rep {n : Nat} {rows : List Rw} (hl : rows.length = n) {k m : Nat} (hk : k < n) (hm : m < rows.length) : dD n (rows.take k ++ rows[m] :: rows.drop (k + 1)) = if m = k then dD n rows else 0 := by
  by_cases c : m = k
  · subst c
    rw [if_pos rfl, ← List.drop_eq_getElem_cons hm, List.take_append_drop]
  · rw [if_neg c]
    rcases Nat.lt_or_gt_of_ne c with q | q
    · have h1 : m < (rows.take k).length := by rw [List.length_take]; omega
      have e : rows.take k = (rows.take k).take m ++ rows[m] :: (rows.take k).drop (m + 1) := by
        have e0 : (rows.take k)[m] = rows[m] := List.getElem_take
        rw [← e0, ← List.drop_eq_getElem_cons h1, List.take_append_drop]
      rw [e, List.append_assoc, List.cons_append]
      refine dD_same _ _ ?_
      rw [List.length_take, List.length_drop, List.length_take, List.length_drop]
      omega
    · have h1 : m - (k + 1) < (rows.drop (k + 1)).length := by rw [List.length_drop]; omega
      have e : rows.drop (k + 1) = (rows.drop (k + 1)).take (m - (k + 1)) ++ rows[m] :: (rows.drop (k + 1)).drop (m - (k + 1) + 1) := by
        have e0 : (rows.drop (k + 1))[m - (k + 1)] = rows[m] := by rw [List.getElem_drop]; congr 1; omega
        rw [← e0, ← List.drop_eq_getElem_cons h1, List.take_append_drop]
      rw [e]
      refine dD_same _ _ ?_
      rw [List.length_take, List.length_take, List.length_drop, List.length_drop, List.length_drop]
      omega
noncomputable def cmb (rows : List Rw) (x : Nat → Rat) : Nat → Rw
  | 0 => fun _ => 0
  | m + 1 => adR (cmb rows x m) (rows.getD m fun _ => 0) (x m)
theorem cmb_at (rows : List Rw) (x : Nat → Rat) (j : Nat) : ∀ m, cmb rows x m j = sumN m fun i => x i * rows.getD i (fun _ => 0) j
  | 0 => rfl
  | m + 1 => by rw [cmb, sumN, ← cmb_at rows x j m]; rfl
theorem dD_cmb {n : Nat} {rows : List Rw} (hl : rows.length = n) (x : Nat → Rat) {k : Nat} (hk : k < n) : ∀ m, m ≤ n → dD n (rows.take k ++ cmb rows x m :: rows.drop (k + 1)) = if k < m then x k * dD n rows else 0
  | 0, _ => by
    rw [if_neg (by omega)]
    exact dD_nil (by rw [List.length_take, List.length_drop]; omega)
  | m + 1, hm => by
    rw [cmb, dD_lin n _ _ _ _ _ (by rw [List.length_take, List.length_drop]; omega), dD_cmb hl x hk m (by omega)]
    have e : rows.getD m (fun _ => 0) = rows[m]'(by omega) := by simp [List.getD, show m < rows.length by omega]
    rw [e, dD_rep hl hk (by omega)]
    by_cases c : m = k
    · subst c
      rw [if_neg (by omega), if_pos rfl, if_pos (by omega)]; grind
    · rw [if_neg c]
      by_cases c2 : k < m
      · rw [if_pos c2, if_pos (by omega)]; grind
      · rw [if_neg c2, if_neg (by omega)]; grind
noncomputable def bD (B : Nat) : Nat → Nat
  | 0 => 1
  | n + 1 => (n + 1) * (B * bD B n)
theorem dE_cm {D : List Rw → Rat} {n L B F E : Nat} (hD : ∀ rows : List Rw, rows.length = n → (∀ r ∈ rows, ∀ j, j < n → Cm L B (r j)) → Cm F E (D rows)) : ∀ (rest pre : List Rw), pre.length + rest.length = n + 1 → (∀ r ∈ pre, ∀ j, j < n + 1 → Cm L B (r j)) → (∀ r ∈ rest, ∀ j, j < n + 1 → Cm L B (r j)) → Cm (L * F) (rest.length * (B * E)) (dE D pre rest)
  | [], pre, _, _, _ => by rw [dE]; exact Cm.zero
  | r :: rest, pre, hl, hp, hr => by
    rw [List.length_cons] at hl
    rw [dE, List.length_cons, Nat.succ_mul]
    have h1 := dE_cm hD rest (pre ++ [r]) (by rw [List.length_append]; simp; omega) (fun q hq => by
      rcases List.mem_append.mp hq with hq | hq
      · exact hp q hq
      · rw [List.mem_singleton.mp hq]; exact hr r List.mem_cons_self) fun q hq => hr q (List.mem_cons_of_mem _ hq)
    have h2 := hD ((pre ++ rest).map tlR) (by rw [List.length_map, List.length_append]; omega) fun q hq j hj => by
      obtain ⟨s, hs, rfl⟩ := List.mem_map.mp hq
      show Cm L B (s (j + 1))
      rcases List.mem_append.mp hs with hs | hs
      · exact hp s hs (j + 1) (by omega)
      · exact hr s (List.mem_cons_of_mem _ hs) (j + 1) (by omega)
    have h3 := ((hr r List.mem_cons_self 0 (by omega)).mul h2).sub h1
    exact h3.mono (Nat.dvd_refl _) (by omega)
theorem dD_cm {L B : Nat} : ∀ (n : Nat) (rows : List Rw), rows.length = n → (∀ r ∈ rows, ∀ j, j < n → Cm L B (r j)) → Cm (L ^ n) (bD B n) (dD n rows)
  | 0, rows, _, _ => Cm.int (i := 1) (show 1 ≤ bD B 0 from Nat.le_refl _)
  | n + 1, rows, hl, h => by
    have := dE_cm (D := dD n) (n := n) (L := L) (B := B) (F := L ^ n) (E := bD B n) (dD_cm n) rows [] (by simpa using hl) (fun _ h => nomatch h) h
    rw [hl] at this
    rw [dD, Nat.pow_succ, Nat.mul_comm (L ^ n), bD]
    exact this
theorem cm_mul_int {L B : Nat} {q : Rat} (h : Cm L B q) : ∃ v : Int, q * (L : Rat) = (v : Rat) := ⟨_, top_of h.d⟩
theorem cram {n : Nat} {rows : List Rw} {x : Nat → Rat} {L B L' B' : Nat} (hl : rows.length = n) (L0 : 0 < L) (L0' : 0 < L') (hL : L ∣ L') (hB : B ≤ B') (h0 : dD n rows ≠ 0) (c1 : ∀ r ∈ rows, ∀ j, j < n → Cm L B (r j)) (c2 : ∀ j, j < n → Cm L' B' (sumN n fun i => x i * rows.getD i (fun _ => 0) j)) :
    ∃ V : Nat, 0 < V ∧ V ≤ L' ^ n * (bD B n * L ^ n) ∧ ∀ k, k < n → Cm V (bD B' n * L ^ n) (x k) := by
  have cd := dD_cm n rows hl c1
  obtain ⟨w, hw⟩ := cm_mul_int cd
  obtain ⟨d, hd⟩ : ∃ d, dD n rows = d := ⟨_, rfl⟩
  rw [hd] at cd hw h0
  have Ln : 0 < L ^ n := Nat.pow_pos L0
  have Ln' : 0 < L' ^ n := Nat.pow_pos L0'
  have LnR : (0 : Rat) < ((L ^ n : Nat) : Rat) := by rw [← Rat.intCast_natCast]; exact Rat.intCast_pos.mpr (by omega)
  have w0 : w ≠ 0 := fun z => by
    rw [z] at hw
    rcases Rat.mul_eq_zero.mp (show d * ((L ^ n : Nat) : Rat) = 0 from hw) with q | q
    · exact h0 q
    · rw [q] at LnR; exact absurd LnR (by decide)
  have wb : w.natAbs ≤ bD B n * L ^ n := by
    have h1 := cd.lo
    have h2 := cd.hi
    have nn : (0 : Rat) ≤ ((L ^ n : Nat) : Rat) := Rat.le_of_lt LnR
    have k1 := Rat.mul_nonneg (show 0 ≤ ((bD B n : Nat) : Rat) - d by grind) nn
    have k2 := Rat.mul_nonneg (show 0 ≤ ((bD B n : Nat) : Rat) + d by grind) nn
    have e : (((bD B n * L ^ n : Nat) : Int) : Rat) = ((bD B n : Nat) : Rat) * ((L ^ n : Nat) : Rat) := by rw [Rat.intCast_natCast, Rat.natCast_mul]
    have q1 : (w : Rat) ≤ (((bD B n * L ^ n : Nat) : Int) : Rat) := by rw [e, ← hw]; grind
    have q2 : (((-w : Int)) : Rat) ≤ (((bD B n * L ^ n : Nat) : Int) : Rat) := by rw [e, Rat.intCast_neg, ← hw]; grind
    have q3 := Rat.intCast_le_intCast.mp q1
    have q4 := Rat.intCast_le_intCast.mp q2
    omega
  have wp : 0 < w.natAbs := by omega
  refine ⟨L' ^ n * w.natAbs, Nat.mul_pos Ln' wp, Nat.mul_le_mul_left _ wb, fun k hk => ?_⟩
  have cr := dD_cmb hl x hk n (Nat.le_refl _)
  rw [if_pos hk, hd] at cr
  have ck : Cm (L' ^ n) (bD B' n) (x k * d) := by
    rw [← cr]
    refine dD_cm n _ (by rw [List.length_append, List.length_cons, List.length_take, List.length_drop]; omega) fun r hr j hj => ?_
    rcases List.mem_append.mp hr with hr | hr
    · exact (c1 r (List.mem_of_mem_take hr) j hj).mono hL hB
    · rcases List.mem_cons.mp hr with hr | hr
      · rw [hr, cmb_at]; exact c2 j hj
      · exact (c1 r (List.mem_of_mem_drop hr) j hj).mono hL hB
  obtain ⟨u, hu⟩ := cm_mul_int ck
  suffices hh : (x k).den ∣ L' ^ n * w.natAbs ∧ -((bD B' n * L ^ n : Nat) : Rat) ≤ x k ∧ x k ≤ ((bD B' n * L ^ n : Nat) : Rat) from ⟨hh.1, hh.2.1, hh.2.2⟩
  refine ⟨?_, ?_⟩
  · refine den_of (n := (if 0 ≤ w then u * (L ^ n : Nat) else -(u * (L ^ n : Nat)))) (Nat.ne_of_gt (Nat.mul_pos Ln' wp)) ?_
    have e1 : x k * ((L' ^ n : Nat) : Rat) * (w : Rat) = (u : Rat) * ((L ^ n : Nat) : Rat) := by rw [← hw, ← hu]; grind
    rw [Rat.natCast_mul]
    by_cases c : 0 ≤ w
    · rw [if_pos c, Rat.intCast_mul, Rat.intCast_natCast, ← e1]
      have : ((w.natAbs : Nat) : Rat) = (w : Rat) := by rw [← Rat.intCast_natCast]; congr 1; omega
      rw [this]; grind
    · rw [if_neg c, Rat.intCast_neg, Rat.intCast_mul, Rat.intCast_natCast, ← e1]
      have : ((w.natAbs : Nat) : Rat) = -(w : Rat) := by rw [← Rat.intCast_natCast, ← Rat.intCast_neg]; congr 1; omega
      rw [this]; grind
  · have dl : (1 : Rat) ≤ absR d * ((L ^ n : Nat) : Rat) := by
      rcases absR_cases d with ⟨c, e⟩ | ⟨c, e⟩ <;> rw [e]
      · rw [hw]
        have : (0 : Rat) ≤ (w : Rat) := by rw [← hw]; exact Rat.mul_nonneg c (Rat.le_of_lt LnR)
        have : 0 ≤ w := Rat.intCast_nonneg.mp this
        exact Rat.intCast_le_intCast.mpr (show (1 : Int) ≤ w by omega)
      · have e2 : -d * ((L ^ n : Nat) : Rat) = ((-w : Int) : Rat) := by rw [Rat.intCast_neg, ← hw]; grind
        rw [e2]
        have : (0 : Rat) ≤ ((-w : Int) : Rat) := by rw [← e2]; exact Rat.mul_nonneg (by grind) (Rat.le_of_lt LnR)
        have : 0 ≤ -w := Rat.intCast_nonneg.mp this
        exact Rat.intCast_le_intCast.mpr (show (1 : Int) ≤ -w by omega)
    have b1 := ck.lo
    have b2 := ck.hi
    have ab : absR (x k) * absR d ≤ ((bD B' n : Nat) : Rat) := by
      rcases absR_cases d with ⟨c, e⟩ | ⟨c, e⟩ <;> rcases absR_cases (x k) with ⟨c', e'⟩ | ⟨c', e'⟩ <;> rw [e, e'] <;> grind
    have nx := absR_nn (x k)
    have m1 := Rat.mul_nonneg nx (show 0 ≤ absR d * ((L ^ n : Nat) : Rat) - 1 by grind)
    have m2 := Rat.mul_nonneg (show 0 ≤ ((bD B' n : Nat) : Rat) - absR (x k) * absR d by grind) (Rat.le_of_lt LnR)
    have fin : absR (x k) ≤ ((bD B' n * L ^ n : Nat) : Rat) := by
      rw [Rat.natCast_mul]
      grind
    rcases absR_cases (x k) with ⟨c', e'⟩ | ⟨c', e'⟩ <;> rw [e'] at fin <;> constructor <;> grind
theorem tot_nil (ms : List Mk) : tot (ms.map fun _ => (0 : Rat)) = 0 := by
  induction ms with
  | nil => rfl
  | cons m ms ih => rw [List.map_cons, tot, ih, Rat.add_zero]
noncomputable def mmt (ms : List Mk) (f : Mk → Rat) (i : Nat) : Rat := tot (ms.map fun m => (m.2.2 : Rat) * f m * m.1 ^ i)
theorem mmt_add (ms : List Mk) (f g : Mk → Rat) (i : Nat) : mmt ms (fun m => f m + g m) i = mmt ms f i + mmt ms g i := by
  unfold mmt
  induction ms with
  | nil => simp [tot, Rat.add_zero]
  | cons m ms ih =>
    simp only [List.map_cons, tot]
    rw [ih]
    grind
theorem mmt_scale (ms : List Mk) (c : Rat) (k i : Nat) : mmt ms (fun m => c * m.1 ^ k) i = c * mmt ms (fun _ => 1) (k + i) := by
  unfold mmt
  induction ms with
  | nil => simp [tot, Rat.mul_zero]
  | cons m ms ih =>
    simp only [List.map_cons, tot]
    rw [ih, rpow_add]
    grind
theorem mmt_zero (ms : List Mk) (i : Nat) : mmt ms (fun _ => 0) i = 0 := by
  unfold mmt
  induction ms with
  | nil => rfl
  | cons m ms ih =>
    simp only [List.map_cons, tot]
    rw [ih]
    grind
theorem mmt_lin (ms : List Mk) (y : Nat → Rat) (i : Nat) : ∀ n, sumN n (fun j => mmt ms (fun _ => 1) (i + j) * y j) = mmt ms (fun m => hgt (polyOf n y) m.1) i
  | 0 => by
    have e : (fun m : Mk => hgt (polyOf 0 y) m.1) = fun _ => 0 := rfl
    rw [e, mmt_zero]; rfl
  | n + 1 => by
    have e : (fun m : Mk => hgt (polyOf (n + 1) y) m.1) = fun m => hgt (polyOf n y) m.1 + y n * m.1 ^ n := by
      funext m; exact poly_hgt n y m.1
    rw [e, mmt_add ms (fun m => hgt (polyOf n y) m.1) (fun m => y n * m.1 ^ n), mmt_scale, ← mmt_lin ms y i n]
    show sumN n _ + mmt ms (fun _ => 1) (i + n) * y n = _
    rw [Nat.add_comm i n]
    grind
theorem mmt_dot (ms : List Mk) (f : Mk → Rat) (y : Nat → Rat) : ∀ n, (∀ i, i < n → mmt ms f i = 0) → tot (ms.map fun m => (m.2.2 : Rat) * f m * hgt (polyOf n y) m.1) = 0
  | 0, _ => by
    have e : (fun m : Mk => (m.2.2 : Rat) * f m * hgt (polyOf 0 y) m.1) = fun m => 0 := by funext m; show _ * hgt [] m.1 = 0; rw [hgt_nil, Rat.mul_zero]
    rw [e]
    exact tot_nil ms
  | n + 1, h => by
    have ih := mmt_dot ms f y n fun i hi => h i (by omega)
    have hn := h n (by omega)
    have key : tot (ms.map fun m => (m.2.2 : Rat) * f m * hgt (polyOf (n + 1) y) m.1) = tot (ms.map fun m => (m.2.2 : Rat) * f m * hgt (polyOf n y) m.1) + y n * mmt ms f n := by
      unfold mmt
      clear ih hn h
      induction ms with
      | nil => simp [tot, Rat.mul_zero, Rat.add_zero]
      | cons m ms ih =>
        simp only [List.map_cons, tot]
        rw [ih, poly_hgt]
        grind
    rw [key, ih, hn, Rat.mul_zero, Rat.add_zero]
theorem tot_sq_zero : ∀ {qs : List Rat}, (∀ q ∈ qs, 0 ≤ q) → tot qs = 0 → ∀ q ∈ qs, q = 0
  | [], _, _, _, h => by cases h
  | a :: qs, nn, e, q, h => by
    have n1 := nn a List.mem_cons_self
    have n2 : 0 ≤ tot qs := by
      have : ∀ {as : List Rat}, (∀ q ∈ as, 0 ≤ q) → 0 ≤ tot as := fun {as} => by
        induction as with
        | nil => intro _; exact Rat.le_refl
        | cons b bs ih =>
          intro hb
          have h1 := hb b List.mem_cons_self
          have h2 := ih fun q hq => hb q (List.mem_cons_of_mem _ hq)
          rw [tot]; grind
      exact this fun q hq => nn q (List.mem_cons_of_mem _ hq)
    rw [tot] at e
    have e1 : a = 0 := by grind
    have e2 : tot qs = 0 := by grind
    rcases List.mem_cons.mp h with rfl | h
    · exact e1
    · exact tot_sq_zero (fun q hq => nn q (List.mem_cons_of_mem _ hq)) e2 q h
theorem mmt_kernel {ms : List Mk} {n : Nat} {y : Nat → Rat} (hw : ∀ m ∈ ms, 1 ≤ m.2.2) (nd : (ms.map (·.1)).Nodup) (hn : n ≤ ms.length) (h : ∀ i, i < n → mmt ms (fun m => hgt (polyOf n y) m.1) i = 0) : ∀ j, j < n → y j = 0 := by
  have h0 := mmt_dot ms (fun m => hgt (polyOf n y) m.1) y n h
  have hz := tot_sq_zero (qs := ms.map fun m => (m.2.2 : Rat) * hgt (polyOf n y) m.1 * hgt (polyOf n y) m.1) (fun q hq => by
    obtain ⟨m, hm, rfl⟩ := List.mem_map.mp hq
    have w0 : (0 : Rat) ≤ (m.2.2 : Rat) := Rat.intCast_nonneg.mpr (by have := hw m hm; omega)
    have s0 : (0 : Rat) ≤ hgt (polyOf n y) m.1 * hgt (polyOf n y) m.1 := by
      rcases Rat.le_total (a := 0) (b := hgt (polyOf n y) m.1) with c | c
      · exact Rat.mul_nonneg c c
      · have := Rat.mul_nonneg (show 0 ≤ -hgt (polyOf n y) m.1 by grind) (show 0 ≤ -hgt (polyOf n y) m.1 by grind)
        grind
    have := Rat.mul_nonneg w0 s0
    rw [Rat.mul_assoc]; exact this) h0
  have hr : ∀ m ∈ ms, hgt (polyOf n y) m.1 = 0 := fun m hm => by
    have e := hz _ (List.mem_map.mpr ⟨m, hm, rfl⟩)
    have w0 : (m.2.2 : Rat) ≠ 0 := fun z => by have := Rat.intCast_eq_zero_iff.mp z; have := hw m hm; omega
    have e1 := Rat.mul_eq_zero.mp e
    rcases e1 with e1 | e1
    · rcases Rat.mul_eq_zero.mp e1 with e2 | e2
      · exact absurd e2 w0
      · exact e2
    · exact e1
  have hall := roots n (polyOf n y) ((ms.map (·.1)).take n) (poly_len n y) (by rw [List.length_take, List.length_map]; omega) (nd.sublist (List.take_sublist _ _)) (fun x hx => by
    obtain ⟨m, hm, rfl⟩ := List.mem_map.mp (List.mem_of_mem_take hx)
    exact hr m hm)
  intro j hj
  exact hall (y j) (List.mem_map.mpr ⟨j, List.mem_range.mpr hj, rfl⟩)
theorem cm_int {L B : Nat} {q : Rat} (h : Cm L B q) (L0 : 0 < L) : ∃ v : Int, q * ((L : Int) : Rat) = (v : Rat) ∧ v.natAbs ≤ B * L := by
  obtain ⟨k, hk⟩ := h.d
  have hd := Fm.den_pos q
  have hn := h.num
  refine ⟨q.num * (k : Int), ?_, ?_⟩
  · rw [Rat.intCast_mul, Fm.num_eq q, hk]
    simp only [Rat.intCast_natCast]
    rw [Rat.natCast_mul]
    grind
  · rw [Int.natAbs_mul, Int.natAbs_natCast]
    calc q.num.natAbs * k ≤ (B * q.den) * k := Nat.mul_le_mul_right _ hn
      _ = B * L := by rw [hk, Nat.mul_assoc]
theorem common (d : Nat) : ∀ qs : List Rat, (∀ q ∈ qs, Dg d q) → ∃ L : Nat, 0 < L ∧ L ≤ 10 ^ (d * qs.length) ∧ ∀ q ∈ qs, Cm L (10 ^ d) q
  | [], _ => ⟨1, by decide, by simp, fun q h => nomatch h⟩
  | a :: qs, h => by
    obtain ⟨L, L0, L1, hL⟩ := common d qs fun q hq => h q (List.mem_cons_of_mem _ hq)
    have ha := h a List.mem_cons_self
    have hd := Nat.pos_of_ne_zero a.den_nz
    refine ⟨a.den * L, Nat.mul_pos hd L0, ?_, fun q hq => ?_⟩
    · rw [List.length_cons, Nat.mul_succ, Nat.add_comm, Nat.pow_add]
      exact Nat.mul_le_mul ha.d L1
    · rcases List.mem_cons.mp hq with rfl | hq
      · exact Cm.of (Nat.dvd_mul_right _ _) (Nat.le_trans ha.n (Nat.le_mul_of_pos_right _ hd))
      · exact (hL q hq).mono (Nat.dvd_mul_left _ _) (Nat.le_refl _)
theorem zip_map_self (f : Mk → Rat) : ∀ ms : List Mk, (ms.map f).zip ms = ms.map fun m => (f m, m)
  | [] => rfl
  | m :: ms => by rw [List.map_cons, List.zip_cons_cons, zip_map_self f ms]; rfl
theorem termJ_eq {ts xs : List Rat} (h : ts.length = xs.length) : ∀ j, termJ ts xs j = List.zipWith (fun t x => t * x ^ j) ts xs
  | 0 => by
    rw [termJ]
    refine List.ext_getElem (by rw [List.length_zipWith]; omega) fun i h1 h2 => ?_
    rw [List.getElem_zipWith, Rat.pow_zero, Rat.mul_one]
  | j + 1 => by
    rw [termJ, termJ_eq h j]
    refine List.ext_getElem (by rw [List.length_zipWith, List.length_zipWith, List.length_zipWith]; omega) fun i h1 h2 => ?_
    rw [List.getElem_zipWith, List.getElem_zipWith, List.getElem_zipWith, Rat.pow_succ, Rat.mul_assoc]
theorem mom_mmt (ms : List Mk) (f : Mk → Rat) (j : Nat) : tot (termJ (ms.map fun m => (m.2.2 : Rat) * f m) (ms.map (·.1)) j) = mmt ms f j := by
  rw [termJ_eq (by rw [List.length_map, List.length_map])]
  unfold mmt
  congr 1
  induction ms with
  | nil => rfl
  | cons m ms ih => rw [List.map_cons, List.map_cons, List.map_cons, List.zipWith_cons_cons, ih]
theorem cutL_fn {α : Type} {xs : List α} {f n : Nat} (h : f + n ≤ xs.length) : cutL xs (some (f : Int)) (some ((f : Int) + (n : Int))) = (xs.drop f).take n := by
  unfold cutL
  rw [show (f : Int) + (n : Int) = ((f + n : Nat) : Int) by omega, HT.sIx_nat, HT.sIx_nat, Nat.min_eq_left (by omega), Nat.min_eq_left (by omega), Nat.add_sub_cancel_left]
noncomputable def rowM (ms : List Mk) (n i : Nat) : List Rat := ((List.range n).map fun j => mmt ms (fun _ => 1) (i + j)) ++ [mmt ms (fun m => m.2.1) i]
theorem rowM_len (ms : List Mk) (n i : Nat) : (rowM ms n i).length = n + 1 := by simp [rowM]
theorem rowM_at {ms : List Mk} {n i j : Nat} (h : j < n) : (rowM ms n i).getD j 0 = mmt ms (fun _ => 1) (i + j) := by
  unfold rowM
  rw [List.getD_eq_getElem?_getD, List.getElem?_append_left (by rw [List.length_map, List.length_range]; exact h)]
  simp [h]
theorem rowM_end (ms : List Mk) (n i : Nat) : (rowM ms n i).getD n 0 = mmt ms (fun m => m.2.1) i := by
  unfold rowM
  rw [List.getD_eq_getElem?_getD, List.getElem?_append_right (by rw [List.length_map, List.length_range]; exact Nat.le_refl _)]
  simp
theorem zipW_same {α β γ δ : Type} (f : β → γ → δ) (g : α → β) (h : α → γ) : ∀ l : List α, List.zipWith f (l.map g) (l.map h) = l.map fun x => f (g x) (h x)
  | [] => rfl
  | x :: l => by rw [List.map_cons, List.map_cons, List.map_cons, List.zipWith_cons_cons, zipW_same f g h l]
theorem aug_mom {ms : List Mk} {n : Nat} {mo rt : List Rat} (hm : mo = (List.range (2 * n - 1)).map fun k => mmt ms (fun _ => 1) k) (hr : rt = (List.range n).map fun k => mmt ms (fun m => m.2.1) k) :
    augR ((List.range n).map fun k => (mo.drop k).take n) rt = (List.range n).map (rowM ms n) := by
  unfold augR
  rw [hr, zipW_same]
  refine List.map_congr_left fun i hi => ?_
  have hi' := List.mem_range.mp hi
  unfold rowM
  congr 1
  rw [hm]
  refine List.ext_getElem (by simp; omega) fun j h1 h2 => ?_
  simp
theorem lin_row {ms : List Mk} {n i : Nat} (y : Nat → Rat) : lin n (rowM ms n i) y = mmt ms (fun m => hgt (polyOf n y) m.1) i := by
  rw [← mmt_lin ms y i n]
  unfold lin
  exact sumN_congr fun j hj => by rw [rowM_at hj]
theorem lin_sol {ms : List Mk} {n i : Nat} {x : List Rat} (h : x.length = n) : lin (n + 1) (rowM ms n i) (fun j => if j < n then x.getD j 0 else -1) = mmt ms (fun m => hgt x m.1) i - mmt ms (fun m => m.2.1) i := by
  have e := lin_row (ms := ms) (n := n) (i := i) (fun j => x.getD j 0)
  rw [poly_self h] at e
  unfold lin at e ⊢
  rw [sumN]
  dsimp only
  rw [if_neg (Nat.lt_irrefl _), rowM_end]
  have e2 : sumN n (fun j => (rowM ms n i).getD j 0 * (if j < n then x.getD j 0 else -1)) = sumN n fun j => (rowM ms n i).getD j 0 * x.getD j 0 := sumN_congr fun j hj => by rw [if_pos hj]
  rw [e2, e]
  grind
theorem sumN_sub (a b c : Nat → Rat) : ∀ n, sumN n (fun j => a j * (b j - c j)) = sumN n (fun j => a j * b j) - sumN n (fun j => a j * c j)
  | 0 => by show (0 : Rat) = 0 - 0; grind
  | n + 1 => by
    rw [sumN, sumN, sumN, sumN_sub a b c n]
    grind
theorem mmt_one {ms : List Mk} {n : Nat} {x z : List Rat} (hw : ∀ m ∈ ms, 1 ≤ m.2.2) (nd : (ms.map (·.1)).Nodup) (hn : n ≤ ms.length) (hx : x.length = n) (hz : z.length = n) (h : ∀ i, i < n → mmt ms (fun m => hgt x m.1) i = mmt ms (fun m => hgt z m.1) i) : x = z := by
  have k := mmt_kernel (y := fun j => x.getD j 0 - z.getD j 0) hw nd hn fun i hi => by
    rw [← mmt_lin ms _ i n, sumN_sub (fun j => mmt ms (fun _ => 1) (i + j)) (fun j => x.getD j 0) (fun j => z.getD j 0)]
    have e1 := mmt_lin ms (fun j => x.getD j 0) i n
    have e2 := mmt_lin ms (fun j => z.getD j 0) i n
    rw [poly_self hx] at e1
    rw [poly_self hz] at e2
    rw [e1, e2, h i hi]
    grind
  refine List.ext_getElem (by omega) fun j h1 h2 => ?_
  have := k j (by omega)
  rw [getD_of h1, getD_of h2] at this
  grind
theorem hgt_cm {L M A C : Nat} {x : Rat} (hx : Cm M C x) (hA : 1 ≤ A) : ∀ {nu : List Rat}, (∀ n ∈ nu, Cm L A n) → Cm (L * M ^ nu.length) (A * (C + 1) ^ nu.length) (hgt nu x)
  | [], _ => Cm.zero
  | n :: nu, h => by
    have ih := hgt_cm hx hA (nu := nu) fun c hc => h c (List.mem_cons_of_mem _ hc)
    have h0 := (h n List.mem_cons_self).mono (L' := L * M ^ (nu.length + 1)) ⟨_, rfl⟩ (Nat.le_refl _)
    have h1 := ih.mul hx
    rw [show L * M ^ nu.length * M = L * M ^ (nu.length + 1) by rw [Nat.pow_succ, Nat.mul_assoc]] at h1
    rw [hgt_cons, List.length_cons]
    refine (h1.add h0).mono (Nat.dvd_refl _) ?_
    have p : 1 ≤ (C + 1) ^ nu.length := Nat.pow_pos (by omega)
    have p2 : A ≤ A * (C + 1) ^ nu.length := Nat.le_mul_of_pos_right _ p
    rw [Nat.pow_succ, ← Nat.mul_assoc, Nat.mul_add (A * (C + 1) ^ nu.length), Nat.mul_one]
    omega
noncomputable def SqB (ms : List Mk) (bd : Nat) (ns : List Rat) : Prop := ns.length = bd + 1 ∧ ∀ i, i < bd + 1 → mmt ms (fun m => hgt ns m.1) i = mmt ms (fun m => m.2.1) i
structure SW (ms : List Mk) : Prop where
  n14 : ms.length ≤ 14
  x : ∀ m ∈ ms, Cm 2 1100 m.1
  w : ∀ m ∈ ms, 1 ≤ m.2.2 ∧ m.2.2 ≤ 5 * 10 ^ 9
  h : ∀ m ∈ ms, Cm 2 (10 ^ 11) m.2.1
  nd : (ms.map (·.1)).Nodup
theorem mmt_cmG {ms : List Mk} {f : Mk → Rat} {L B N W X i : Nat} (hn : ms.length ≤ N) (hw : ∀ m ∈ ms, m.2.2.natAbs ≤ W) (hx : ∀ m ∈ ms, Cm 2 X m.1) (hf : ∀ m ∈ ms, Cm L B (f m)) : Cm (L * 2 ^ i) (N * (W * B * X ^ i)) (mmt ms f i) := by
  have hp : ∀ m ∈ ms, ∀ k, Cm (2 ^ k) (X ^ k) (m.1 ^ k) := fun m hm k => by
    induction k with
    | zero => rw [Rat.pow_zero]; exact Cm.int (i := 1) (show 1 ≤ X ^ 0 from Nat.le_refl _)
    | succ k ih => rw [Rat.pow_succ, Nat.pow_succ, Nat.pow_succ]; exact ih.mul (hx m hm)
  unfold mmt
  have h := Cm.tot (qs := ms.map fun m => (m.2.2 : Rat) * f m * m.1 ^ i) (L := L * 2 ^ i) (B := W * B * X ^ i) fun q hq => by
    obtain ⟨m, hm, rfl⟩ := List.mem_map.mp hq
    have h1 := ((Cm.int (i := m.2.2) (B := W) (hw m hm)).mul (hf m hm)).mul (hp m hm i)
    rw [Nat.one_mul] at h1
    exact h1
  refine h.mono (Nat.dvd_refl _) ?_
  rw [List.length_map]
  exact Nat.mul_le_mul_right _ hn
theorem sq_nums {ms : List Mk} {n : Nat} (Z : SW ms) (n4 : n ≤ 4) (hn : n ≤ ms.length) {x : List Rat} (hx : x.length = n) (h : ∀ i, i < n → mmt ms (fun m => hgt x m.1) i = mmt ms (fun m => m.2.1) i) : ∃ V : Nat, 0 < V ∧ V ≤ 10 ^ 134 ∧ ∀ q ∈ x, Cm V (10 ^ 169) q := by
  obtain ⟨rows, hr⟩ : ∃ rows : List Rw, (List.range n).map (fun i j => mmt ms (fun _ => 1) (i + j)) = rows := ⟨_, rfl⟩
  have rl : rows.length = n := by rw [← hr, List.length_map, List.length_range]
  have rat : ∀ i, i < n → rows.getD i (fun _ => 0) = fun j => mmt ms (fun _ => 1) (i + j) := fun i hi => by
    rw [getD_of (by omega)]
    subst hr
    rw [List.getElem_map, List.getElem_range]
  have hw : ∀ m ∈ ms, m.2.2.natAbs ≤ 5 * 10 ^ 9 := fun m hm => by have := Z.w m hm; omega
  have c1 : ∀ r ∈ rows, ∀ j, j < n → Cm 64 (14 * (5 * 10 ^ 9 * 1 * 1100 ^ 6)) (r j) := fun r hr' j hj => by
    rw [← hr] at hr'
    obtain ⟨i, hi, rfl⟩ := List.mem_map.mp hr'
    have hi' := List.mem_range.mp hi
    have h1 : Cm 1 1 (1 : Rat) := Cm.int (i := 1) (by decide)
    refine (mmt_cmG (i := i + j) Z.n14 hw Z.x fun _ _ => h1).mono ?_ ?_
    · rw [Nat.one_mul]
      exact Nat.pow_dvd_pow 2 (show i + j ≤ 6 by omega)
    · exact Nat.mul_le_mul_left _ (Nat.mul_le_mul_left _ (Nat.pow_le_pow_right (by decide) (by omega)))
  have c2 : ∀ j, j < n → Cm (64 * 2) (14 * (5 * 10 ^ 9 * 10 ^ 11 * 1100 ^ 6)) (sumN n fun i => x.getD i 0 * rows.getD i (fun _ => 0) j) := fun j hj => by
    have e : (sumN n fun i => x.getD i 0 * rows.getD i (fun _ => 0) j) = mmt ms (fun m => m.2.1) j := by
      rw [← h j hj]
      have e1 := mmt_lin ms (fun i => x.getD i 0) j n
      rw [poly_self hx] at e1
      rw [← e1]
      refine sumN_congr fun i hi => ?_
      rw [rat i hi, Nat.add_comm j i]
      grind
    rw [e]
    refine (mmt_cmG (i := j) Z.n14 hw Z.x Z.h).mono ?_ ?_
    · rw [Nat.mul_comm]
      exact Nat.mul_dvd_mul_right (Nat.pow_dvd_pow 2 (show j ≤ 6 by omega)) _
    · exact Nat.mul_le_mul_left _ (Nat.mul_le_mul_left _ (Nat.pow_le_pow_right (by decide) (by omega)))
  have d0 : dD n rows ≠ 0 := fun z => by
    obtain ⟨y, ⟨j, hj, hy⟩, hk⟩ := (det_ker n rows rl).mp z
    refine hy (mmt_kernel (fun m hm => (Z.w m hm).1) Z.nd hn (fun i hi => ?_) j hj)
    rw [← mmt_lin ms y i n]
    exact hk _ (by rw [← hr]; exact List.mem_map.mpr ⟨i, List.mem_range.mpr hi, rfl⟩)
  obtain ⟨V, V0, V1, hV⟩ := cram rl (by decide) (by decide) (Nat.dvd_mul_right _ _) (by decide +kernel) d0 c1 c2
  refine ⟨V, V0, Nat.le_trans V1 ?_, fun q hq => ?_⟩
  · have h5 : n = 0 ∨ n = 1 ∨ n = 2 ∨ n = 3 ∨ n = 4 := by omega
    rcases h5 with e | e | e | e | e <;> rw [e] <;> decide +kernel
  · obtain ⟨k, hk, rfl⟩ := List.getElem_of_mem hq
    have := hV k (by omega)
    rw [getD_of hk] at this
    refine this.mono (Nat.dvd_refl _) ?_
    have h5 : n = 0 ∨ n = 1 ∨ n = 2 ∨ n = 3 ∨ n = 4 := by omega
    rcases h5 with e | e | e | e | e <;> rw [e] <;> decide +kernel
section
variable {P : Program} {w : World} {K : PySem.W.Frag} {mg : Str → Option Value} {base : Heap} {A : Adr}
noncomputable def wBSq : DW := fun ds Q _ => ∃ (ms : List Mk) (bd : Nat), ds = [.list (ms.map mk3), .int (bd : Int)] ∧ bd ≤ 3 ∧ bd + 1 ≤ ms.length ∧ SW ms ∧ ∀ ns : List Rat, SqB ms bd ns → Q (.two (ns.map fr) ((wmissR ms (ms.map fun m => hgt ns m.1)).map fr))
theorem ok_bend_square (T : Txt K mg A) : FnOk P w K mg base (CXE P w) 7 A.a_bend_square A.d_bend_square ["marks", "bend"] (spW K wBSq) := by
  have G_product := ok_product (P := P) (w := w) (base := base) T
  have G_moments_of := ok_moments_of (P := P) (w := w) (base := base) T
  have G_solved := ok_solved (P := P) (w := w) (base := base) T
  have G_row_of := ok_row_of (P := P) (w := w) (base := base) T
  have G_weighed_misses := ok_weighed_misses (P := P) (w := w) (base := base) T
  refine okW T.F_bend_square sc_bend_square (fun ds Q E h => ?_) (fun cdv Ar outer s H E hr => ?_)
  · obtain ⟨_, _, rfl, _⟩ := h; rfl
  refine ⟨_, (pss_cons (ps_setLC (i := 2) (cap := [none]) (NC := ["mark"]) sc_bend_square.nd rfl rfl rfl ⟨rfl, rfl, by decide +kernel, by decide +kernel, trivial, (fun _ h => nomatch h), rfl⟩ (pilK (K := K) rfl (pv 0)) (fun _ _ _ _ => (pg_name (i := 0) (show List.Nodup (["mark"] : List Str) by decide) rfl (Or.inl rfl))) (fun _ _ _ _ => pts_nil) (fun _ _ _ _ => (pe_tup (pa_cons (pe_ix (ixtK (K := K) rfl) (pv 0) pe_int (fun _ _ => rfl)) (pa_cons pe_int pa_nil)))))
      (pss_cons (ps_setLC (i := 3) (cap := [none, none]) (NC := ["weight", "mark"]) sc_bend_square.nd rfl rfl rfl ⟨rfl, rfl, by decide +kernel, by decide +kernel, trivial, (fun _ h => nomatch h), rfl⟩ (pi_zip (K := K) rfl rfl T.n_zip (pa_cons (pv 2) (pa_cons (pv 0) pa_nil))) (fun _ _ _ _ => (pgtK (K := K) (n := 2) rfl rfl (pgs_cons (pg_name (i := 0) (show List.Nodup (["weight", "mark"] : List Str) by decide) rfl (Or.inl rfl)) (pgs_cons (pg_name (i := 1) (show List.Nodup (["weight", "mark"] : List Str) by decide) rfl (Or.inl rfl)) pgs_nil)))) (fun _ _ _ _ => pts_nil) (fun _ _ _ _ => (pe_call G_product (hr.mono (by decide)) rfl T.m_product T.F_product.kp T.b_product .nil passE0 (pa_cons (pv 0) (pa_cons (pe_ix (ixtK (K := K) rfl) (pv 1) pe_int (fun _ _ => rfl)) pa_nil)))))
      (pss_cons (ps_set (i := 4) sc_bend_square.nd rfl (Or.inr rfl) (pe_call G_moments_of (hr.mono (by decide)) rfl T.m_moments_of T.F_moments_of.kp T.b_moments_of .nil passE0 (pa_cons (pv 0) (pa_cons (pv 2) (pa_cons (pe_op op_add (pe_op op_mulB pe_int (pv 1)) pe_int) pa_nil)))))
      (pss_cons (ps_setLC (i := 5) (cap := [none, some 4, some 1]) (NC := ["power", "moments", "bend"]) sc_bend_square.nd rfl rfl rfl ⟨rfl, rfl, by decide +kernel, by decide +kernel, ⟨⟨_, rfl, rfl, rfl, rfl, rfl⟩, ⟨⟨_, rfl, rfl, rfl, rfl, rfl⟩, trivial⟩⟩, (List.forall_mem_cons.2 ⟨rfl, (List.forall_mem_cons.2 ⟨rfl, (fun _ h => nomatch h)⟩)⟩), rfl⟩ (pi_range1 rfl T.n_range (pa_cons (pe_op op_add (pv 1) pe_int) pa_nil)) (fun _ _ _ _ => (pg_name (i := 0) (show List.Nodup (["power", "moments", "bend"] : List Str) by decide) rfl (Or.inl rfl))) (fun _ _ _ _ => pts_nil) (fun _ _ _ _ => (pe_slice (sllK (K := K) rfl) (pv 1) (po_some (pv 0)) (po_some (pe_op op_add (pe_op op_add (pv 0) (pv 2)) pe_int)))))
      (pss_cons (ps_set (i := 6) sc_bend_square.nd rfl (Or.inl rfl) (pe_call G_solved (hr.mono (by decide)) rfl T.m_solved T.F_solved.kp T.b_solved .nil passE0 (pa_cons (pv 5) (pa_cons (pe_call G_moments_of (hr.mono (by decide)) rfl T.m_moments_of T.F_moments_of.kp T.b_moments_of .nil passE0 (pa_cons (pv 0) (pa_cons (pv 3) (pa_cons (pe_op op_add (pv 1) pe_int) pa_nil)))) pa_nil))))
      (pss_one (ps_ret (pe_tup (pa_cons (pv 6) (pa_cons (pe_call G_weighed_misses (hr.mono (by decide)) rfl T.m_weighed_misses T.F_weighed_misses.kp T.b_weighed_misses .nil passE0 (pa_cons (pv 0) (pa_cons (pe_call G_row_of (hr.mono (by decide)) rfl T.m_row_of T.F_row_of.kp T.b_row_of .nil passE0 (pa_cons (pv 6) (pa_cons (pv 0) pa_nil))) pa_nil))) pa_nil)))))))))), _, (sv_seq (sv_setO 2 (ov_lc (ie_list (lv_var 0)) (gv_name 0) tv_yes (ev_tup (ae_cons (ev_ixk 2 (ev_var 0)) (ae_cons ev_int ae_nil)) (by decide)) (by decide) (by decide)))
      (sv_seq (sv_setO 3 (ov_lc (ie_zip (lv_var 2) (lv_var 0)) (gv_tup (gs_cons (gv_name 0) (gs_cons (gv_name 1) gs_nil))) tv_yes (ev_call0 (av_cons (bv_var 0) (av_cons (bv_ev (ev_ixk 1 (ev_var 1))) av_nil))) (by decide) (by decide)))
      (sv_seq (sv_setO 4 (ov_call0 (av_cons (bv_var 0) (av_cons (bv_var 2) (av_cons (bv_ev (ev_op ro_i0 (bv_ev (ev_op ro_i (bv_ev ev_int) (bv_var 1))) (bv_ev ev_int))) av_nil)))))
      (sv_seq (sv_setO 5 (ov_lc (IvS.e (is_rng1 (av_cons (bv_ev (ev_op ro_i0 (bv_var 1) (bv_ev ev_int))) av_nil))) (gv_name 0) tv_yes (ev_ov (ov_sl (lv_var 1) (op_part (bv_var 0)) (op_part (bv_ev (ev_op ro_i0 (bv_ev (ev_op ro_i0 (bv_var 0) (bv_var 2))) (bv_ev ev_int)))))) (by decide) (by decide)))
      (sv_seq (sv_setO 6 (ov_call0 (av_cons (bv_var 5) (av_cons (bv_ev (ev_ov (ov_call0 (av_cons (bv_var 0) (av_cons (bv_var 3) (av_cons (bv_ev (ev_op ro_i0 (bv_var 1) (bv_ev ev_int))) av_nil)))))) av_nil))))
      (sv_ret2 (o2_vn 6 (ov_call0 (av_cons (bv_var 0) (av_cons (bv_ev (ev_ov (ov_call0 (av_cons (bv_var 6) (av_cons (bv_var 0) av_nil))))) av_nil)))))))))), ?_⟩
  rintro ds Q X ⟨ms, bd, rfl, b3, n1, Z, k⟩
  have hw1 : ∀ m ∈ ms, 1 ≤ m.2.2 := fun m h => (Z.w m h).1
  have n14 := Z.n14
  have hdgM : ∀ m ∈ ms, Dg 13 m.2.1 := fun m hm => (Z.h m hm).dg (by decide) (l := 1) (by decide) (b := 11) (Nat.le_refl _)
  obtain ⟨ws, hws⟩ : ∃ ws : List Rat, ms.map (fun m => (m.2.2 : Rat)) = ws := ⟨_, rfl⟩
  have lw : ws.length = ms.length := by rw [← hws, List.length_map]
  obtain ⟨hs, hhs⟩ : ∃ hs : List Rat, ms.map (fun m => (m.2.2 : Rat) * m.2.1) = hs := ⟨_, rfl⟩
  have lh : hs.length = ms.length := by rw [← hhs, List.length_map]
  have wdg : ∀ m ∈ ms, Dg 10 (m.2.2 : Rat) := fun m h => Dg.int (by have := Z.w m h; omega)
  have hL : ∀ q ∈ hs, Cm 2 (5 * 10 ^ 9 * 10 ^ 11) q := fun q hq => by
    rw [← hhs] at hq
    obtain ⟨m, hm, rfl⟩ := List.mem_map.mp hq
    have := (Cm.int (i := m.2.2) (B := 5 * 10 ^ 9) (by have := Z.w m hm; omega)).mul (Z.h m hm)
    rwa [Nat.one_mul] at this
  walk_at "s"
  refine lc_map mk3 fr (fun m : Mk => [(m.2.2 : Rat)]) ms (by omega) (fun Q h => by walk_at "d"; exact h) (fun m hm N acc hN => ?_) ?_
  · walk_at "d"
    exact hN
  rw [flat_single, hws]
  walk_at "s"
  refine lc_map (fun z : Rat × Mk => PyData.tuple [fr z.1, mk3 z.2]) fr (fun z : Rat × Mk => [z.1 * z.2.2.1]) (ws.zip ms) (by rw [List.length_zip]; omega) (fun Q h => by walk_at "d"; rw [pairD_map]; exact h) (fun z hz N acc hN => ?_) ?_
  · have hz2 := (List.of_mem_zip hz).2
    have hz1 := (List.of_mem_zip hz).1
    rw [← hws] at hz1
    obtain ⟨m', hm', e'⟩ := List.mem_map.mp hz1
    have o1 : Ok z.1 := by rw [← e']; exact dgOk (wdg m' hm') (by decide)
    walk_at "d"
    refine ⟨_, _, rfl, o1, dgOk (hdgM _ hz2) (by decide), ?_⟩
    walk_at "d"
    exact hN
  have e1 : (ws.zip ms).map (fun z : Rat × Mk => z.1 * z.2.2.1) = hs := by
    rw [← hws, ← hhs, zip_map_self, List.map_map]
    rfl
  rw [flat_single, e1]
  walk_at "s"
  have tz : TSz 1 (5 * 10 ^ 9) 2 1100 0 10 1 4 (2 * bd + 1) ws (ms.map (·.1)) := ⟨by rw [lw, List.length_map], by rw [List.length_map]; omega, by decide, by decide, by decide, by decide, by decide, by decide, fun t ht => by
    rw [← hws] at ht
    obtain ⟨m, hm, rfl⟩ := List.mem_map.mp ht
    exact Cm.int (by have := Z.w m hm; omega), fun x hx => by
    obtain ⟨m, hm, rfl⟩ := List.mem_map.mp hx
    exact Z.x m hm, by omega⟩
  have mo1 : ∀ j, tot (termJ ws (ms.map (·.1)) j) = mmt ms (fun _ => 1) j := fun j => by
    rw [← mom_mmt, ← hws]
    congr 2
    exact List.map_congr_left fun m _ => (Rat.mul_one _).symm
  have mo2 : ∀ j, tot (termJ hs (ms.map (·.1)) j) = mmt ms (fun m => m.2.1) j := fun j => by rw [← mom_mmt, ← hhs]
  refine ⟨mulOk (wee (by decide +kernel)) (weeLe (n := 3) (by omega) (by decide +kernel)), ms, ws, 2 * bd + 1, 1, 5 * 10 ^ 9, 2, 1100, 0, 10, 1, 4, by rw [show ((2 * bd + 1 : Nat) : Int) = 2 * (bd : Int) + 1 by omega], by omega, tz, ?_⟩
  walk_at "d"
  refine ⟨frs_flat _, ?_⟩
  obtain ⟨mo, hmo⟩ : ∃ mo, momR ws (ms.map (·.1)) (2 * bd + 1) = mo := ⟨_, rfl⟩
  have lmo : mo.length = 2 * bd + 1 := by rw [← hmo]; unfold momR; rw [List.length_map, List.length_range]
  rw [hmo]
  walk_at "s"
  refine lc_map (fun k : Nat => PyData.int (k : Int)) encR (fun k : Nat => [(mo.drop k).take (bd + 1)]) (List.range (bd + 1)) (by rw [List.length_range]; omega) (fun Q h => by
      walk_at "d"
      refine ⟨⟨by omega, by omega⟩, ?_⟩
      have e : rngD 0 ((bd : Int) + 1).toNat 1 = (List.range (bd + 1)).map fun k : Nat => PyData.int (k : Int) := by
        unfold rngD
        rw [show ((bd : Int) + 1).toNat = bd + 1 by omega]
        exact List.map_congr_left fun k _ => by rw [Int.zero_add, Int.mul_one]
      rw [e]; exact h) (fun q hq N acc hN => ?_) ?_
  · have hq' := List.mem_range.mp hq
    walk_at "d"
    rw [cutL_map, show (q : Int) + (bd : Int) + 1 = (q : Int) + ((bd + 1 : Nat) : Int) by omega, cutL_fn (by omega)]
    exact hN
  rw [flat_single]
  walk_at "s"
  have tz2 : TSz 2 (5 * 10 ^ 9 * 10 ^ 11) 2 1100 1 21 1 4 (bd + 1) hs (ms.map (·.1)) := ⟨by rw [lh, List.length_map], by rw [List.length_map]; omega, by decide, by decide, by decide, by decide, by decide, by decide, hL, fun x hx => by
    obtain ⟨m, hm, rfl⟩ := List.mem_map.mp hx
    exact Z.x m hm, by omega⟩
  refine ⟨ms, hs, bd + 1, 2, 5 * 10 ^ 9 * 10 ^ 11, 2, 1100, 1, 21, 1, 4, by rw [show ((bd + 1 : Nat) : Int) = (bd : Int) + 1 by omega], by omega, tz2, ?_⟩
  walk_at "d"
  refine ⟨frs_flat _, ?_⟩
  obtain ⟨rt, hrt⟩ : ∃ rt, momR hs (ms.map (·.1)) (bd + 1) = rt := ⟨_, rfl⟩
  have lrt : rt.length = bd + 1 := by rw [← hrt]; unfold momR; rw [List.length_map, List.length_range]
  rw [hrt]
  have hmo' : mo = (List.range (2 * (bd + 1) - 1)).map fun k => mmt ms (fun _ => 1) k := by
    rw [← hmo, show 2 * (bd + 1) - 1 = 2 * bd + 1 by omega]
    unfold momR
    exact List.map_congr_left fun k _ => mo1 k
  have hrt' : rt = (List.range (bd + 1)).map fun k => mmt ms (fun m => m.2.1) k := by
    rw [← hrt]
    unfold momR
    exact List.map_congr_left fun k _ => mo2 k
  have aug := aug_mom hmo' hrt'
  have mem : ∀ i, i < bd + 1 → rowM ms (bd + 1) i ∈ augR ((List.range (bd + 1)).map fun k => (mo.drop k).take (bd + 1)) rt := fun i hi => by
    rw [aug]; exact List.mem_map.mpr ⟨i, List.mem_range.mpr hi, rfl⟩
  have ker : ∀ y : Nat → Rat, Hom (bd + 1) (augR ((List.range (bd + 1)).map fun k => (mo.drop k).take (bd + 1)) rt) y → ∀ j, j < bd + 1 → y j = 0 := fun y hom =>
    mmt_kernel hw1 Z.nd n1 fun i hi => by rw [← lin_row]; exact hom _ (mem i hi)
  have hwn : ∀ m ∈ ms, m.2.2.natAbs ≤ 5 * 10 ^ 9 := fun m hm => by have := Z.w m hm; omega
  have rdg : RowsDg (bd + 1) 2 31 36 (augR ((List.range (bd + 1)).map fun k => (mo.drop k).take (bd + 1)) rt) := by
    refine ⟨2 * 2 ^ 3, 10 ^ 31, 10 ^ 36, by decide, by decide, Nat.le_refl _, Nat.le_refl _, fun x hx => ?_⟩
    · rw [aug] at hx
      obtain ⟨i, hi, rfl⟩ := List.mem_map.mp hx
      have hi' := List.mem_range.mp hi
      refine ⟨rowM_len _ _ _, 64, by decide, by decide, fun j hj => ?_, ?_⟩
      · rw [rowM_at hj]
        have h1 : Cm 1 1 (1 : Rat) := Cm.int (i := 1) (by decide)
        have h2 := (mmt_cmG (i := i + j) n14 hwn Z.x fun _ _ => h1).mono (L' := 64) (B' := 14 * (5 * 10 ^ 9 * 1 * 1100 ^ 6)) (by
          rw [Nat.one_mul]
          exact Nat.pow_dvd_pow 2 (show i + j ≤ 6 by omega)) (Nat.mul_le_mul_left _ (Nat.mul_le_mul_left _ (Nat.pow_le_pow_right (by decide) (by omega))))
        obtain ⟨v, e, hv⟩ := cm_int h2 (by decide)
        exact ⟨v, e, Nat.le_trans hv (by decide +kernel)⟩
      · rw [rowM_end]
        have h2 := (mmt_cmG (i := i) n14 hwn Z.x Z.h).mono (L' := 2 * 2 ^ 3) (B' := 14 * (5 * 10 ^ 9 * 10 ^ 11 * 1100 ^ 3)) (Nat.mul_dvd_mul_left 2 (Nat.pow_dvd_pow 2 (show i ≤ 3 by omega))) (Nat.mul_le_mul_left _ (Nat.mul_le_mul_left _ (Nat.pow_le_pow_right (by decide) (by omega))))
        obtain ⟨v, e, hv⟩ := cm_int h2 (by decide)
        refine ⟨64 * v, ?_, ?_⟩
        · rw [Rat.intCast_mul, Rat.intCast_mul, ← e]
          grind
        · rw [Int.natAbs_mul]
          exact Nat.le_trans (Nat.mul_le_mul_left _ hv) (by decide +kernel)
  have g1 := grA_le 31 (show bd + 1 ≤ 4 by omega)
  have g2 := grR_le 31 36 (show bd + 1 ≤ 4 by omega)
  have g3 : grA 31 4 ≤ 800 := by decide
  have g4 : grR 31 36 4 ≤ 800 := by decide
  refine ⟨(List.range (bd + 1)).map fun k => (mo.drop k).take (bd + 1), rt, bd + 1, 2, 31, 36, rfl, by rw [List.length_map, List.length_range], lrt, by omega, fun x hx => ?_, rdg, by omega, by omega, ?_, ?_⟩
  · obtain ⟨q, hq, rfl⟩ := List.mem_map.mp hx
    have := List.mem_range.mp hq
    rw [List.length_take, List.length_drop]; omega
  · rintro ⟨y, ⟨j, hj, hy⟩, hom⟩
    exact absurd (ker y hom j hj) hy
  · intro x hxl _ hom _
    have hnm : ∀ i, i < bd + 1 → mmt ms (fun m => hgt x m.1) i = mmt ms (fun m => m.2.1) i := fun i hi => by
      have := hom _ (mem i hi)
      rw [lin_sol hxl] at this
      grind
    obtain ⟨V, V0, V1, hV⟩ := sq_nums Z (by omega) n1 hxl hnm
    walk_at "d"
    refine ⟨frs_flat _, ?_⟩
    have dn : ∀ q ∈ x, Dg 304 q := fun q hq => (hV q hq).dg V0 (l := 134) V1 (b := 169) (Nat.le_refl _)
    have dx : ∀ m ∈ ms, Dg 6 m.1 := fun m hm => (Z.x m hm).dg (by decide) (l := 1) (by decide) (b := 4) (by decide)
    refine ⟨x, ms, 304, 6, rfl, by omega, by omega, dn, dx, by decide, ?_⟩
    walk_at "d"
    refine ⟨frs_flat _, ?_⟩
    have mz : MSz (2 * (V * 2 ^ 4)) (10 ^ 182) (5 * 10 ^ 9) 136 182 10 ms (ms.map fun m => hgt x m.1) := ⟨by omega, by omega, Nat.le_trans (Nat.mul_le_mul_left _ (Nat.mul_le_mul_right _ V1)) (by decide +kernel), Nat.le_refl _, by decide, fun m hm => (Z.h m hm).mono (Nat.dvd_mul_right _ _) (by decide +kernel), fun q hq => by
      obtain ⟨m, hm, rfl⟩ := List.mem_map.mp hq
      have h1 := hgt_cm (Z.x m hm) (by decide +kernel) hV
      rw [hxl] at h1
      refine h1.mono (Nat.dvd_trans (Nat.mul_dvd_mul_left _ (Nat.pow_dvd_pow 2 (show bd + 1 ≤ 4 by omega))) (Nat.dvd_mul_left _ _)) ?_
      exact Nat.le_trans (Nat.mul_le_mul_left _ (Nat.pow_le_pow_right (by decide) (show bd + 1 ≤ 4 by omega))) (by decide +kernel), hwn, by decide⟩
    refine ⟨ms, _, _, _, _, _, _, _, rfl, mz, ?_⟩
    walk_at "d"
    exact ⟨frs_flat _, k x ⟨hxl, hnm⟩⟩
end
theorem rep_fr (n : Nat) : (List.replicate n [PyData.tuple [PyData.int 0, PyData.int 1]]).flatten = (List.replicate n (0 : Rat)).map fr := by
  rw [List.map_replicate]
  simp
section
variable {P : Program} {w : World} {K : PySem.W.Frag} {mg : Str → Option Value} {base : Heap} {A : Adr}
noncomputable def wThru : DW := fun ds Q _ => ∃ (ms : List Mk) (bd bx bh : Nat), ds = [.list (ms.map mk3), .int (bd : Int)] ∧ 1 ≤ ms.length ∧ ms.length ≤ bd + 1 ∧ bd ≤ 3 ∧ (ms.map (·.1)).Nodup ∧ (∀ m ∈ ms, Dg bx m.1) ∧ (∀ m ∈ ms, Dg bh m.2.1) ∧ grA (3 * bx) 4 + 4 * bh + 6 ≤ 2400 ∧ grR (3 * bx) (5 * bh + 3 * bx) 4 + 6 ≤ 2400 ∧
  ∀ cs : List Rat, cs.length = ms.length → (∀ m ∈ ms, hgt cs m.1 = m.2.1) → (∀ q ∈ cs, Dg (grA (3 * bx) ms.length + 4 * bh + grR (3 * bx) (5 * bh + 3 * bx) ms.length + 2) q) → Q (.two ((cs ++ List.replicate (bd + 1 - ms.length) 0).map fr) ((List.replicate ms.length (0 : Rat)).map fr))
theorem ok_through_all (T : Txt K mg A) : FnOk P w K mg base (CXE P w) 8 A.a_through_all A.d_through_all ["marks", "bend"] (spW K wThru) := by
  have G_bent_through := ok_bent_through (P := P) (w := w) (base := base) T
  refine okW T.F_through_all sc_through_all (fun ds Q E h => ?_) (fun cdv Ar outer s H E hr => ?_)
  · obtain ⟨_, _, _, _, rfl, _⟩ := h; rfl
  refine ⟨_, (pss_cons (ps_set (i := 2) sc_through_all.nd rfl (Or.inl rfl) (pe_call G_bent_through (hr.mono (by decide)) rfl T.m_bent_through T.F_bent_through.kp T.b_bent_through .nil passE0 (pa_cons (pv 0) pa_nil)))
      (pss_cons (ps_set (i := 3) sc_through_all.nd rfl (Or.inl rfl) (pe_op op_rep (pe_lst (pa_cons (pe_glob rfl T.c_NOUGHT (show RelV (.ref _) (.ref _) from rfl)) pa_nil)) (pe_op op_sub (pe_op op_add (pv 1) pe_int) (pe_callB (lenK (K := K) rfl) rfl T.n_len PySem.boot_len (pa_cons (pv 2) pa_nil)))))
      (pss_one (ps_ret (pe_tup (pa_cons (pe_op op_cat (pv 2) (pv 3)) (pa_cons (pe_op op_rep (pe_lst (pa_cons (pe_glob rfl T.c_NOUGHT (show RelV (.ref _) (.ref _) from rfl)) pa_nil)) (pe_callB (lenK (K := K) rfl) rfl T.n_len PySem.boot_len (pa_cons (pv 0) pa_nil))) pa_nil))))))), _, (sv_seq (sv_setO 2 (ov_call0 (av_cons (bv_var 0) av_nil)))
      (sv_seq (sv_setO 3 (ov_rep (mv_ov (ov_lst (ae_cons (ev_c T.k_NOUGHT) ae_nil) (by decide))) (bv_ev (ev_op ro_i0 (bv_ev (ev_op ro_i0 (bv_var 1) (bv_ev ev_int))) (bv_ev (ev_cb rb_len (av_cons (bv_var 2) av_nil)))))))
      (sv_ret2 (o2_nn (ov_cat (mv_var 2) (mv_var 3)) (ov_rep (mv_ov (ov_lst (ae_cons (ev_c T.k_NOUGHT) ae_nil) (by decide))) (bv_ev (ev_cb rb_len (av_cons (bv_var 0) av_nil)))))))), ?_⟩
  rintro ds Q X ⟨ms, bd, bx, bh, rfl, n1, n2, b3, nd, hx, hh, g1, g2, k⟩
  walk_at "s"
  refine ⟨ms, rfl, by omega, fun h => absurd h (by omega), fun _ => ⟨nd, bx, bh, hx, hh, g1, g2, fun cs hl hc hd => ?_⟩⟩
  walk_at "d"
  refine ⟨frs_flat _, ?_⟩
  walk_at "s"
  have e1 : ((bd : Int) + 1 - (cs.length : Int)).toNat = bd + 1 - ms.length := by omega
  rw [e1, rep_fr, Int.toNat_natCast, rep_fr]
  refine ⟨⟨by omega, by omega⟩, by omega, by rw [List.length_map, List.length_replicate]; omega, ⟨by omega, by omega⟩, by omega, ?_⟩
  rw [← List.map_append]
  exact k cs hl hc hd
end
theorem wmiss_map (f : Mk → Rat) : ∀ ms : List Mk, wmissR ms (ms.map f) = ms.map fun m => (m.2.2 : Rat) * (m.2.1 - f m)
  | [] => rfl
  | m :: ms => by
    have ih := wmiss_map f ms
    unfold wmissR missR at ih ⊢
    rw [List.map_cons, List.map_cons, List.zipWith_cons_cons, List.zipWith_cons_cons, ih]
noncomputable def xL (cs : List Mk) (t : Nat) : Rat := (cs.getD t (0, 0, 0)).1
noncomputable def yL (cs : List Mk) (t : Nat) : Rat := (cs.getD t (0, 0, 0)).2.1
theorem pow_hgt {x y : Nat → Rat} {n : Nat} (h : ∀ k, k < n → sumN n (fun t => x t ^ k * y t) = 0) : ∀ (k : Nat) (cs : List Rat), cs.length = k → k ≤ n → sumN n (fun t => hgt cs (x t) * y t) = 0
  | 0, cs, hc, _ => by
    have : cs = [] := List.length_eq_zero_iff.mp hc
    subst this
    refine sumN_zero fun t _ => ?_
    rw [hgt_nil, Rat.zero_mul]
  | k + 1, cs, hc, hn => by
    have hne : cs ≠ [] := fun z => by rw [z] at hc; simp at hc
    obtain ⟨c, d, rfl⟩ : ∃ c d, cs = c ++ [d] := ⟨cs.dropLast, cs.getLast hne, (List.dropLast_concat_getLast hne).symm⟩
    have hl : c.length = k := by rw [List.length_append] at hc; simpa using hc
    have ih := pow_hgt h k c hl (by omega)
    have e : (fun t => hgt (c ++ [d]) (x t) * y t) = fun t => hgt c (x t) * y t + d * (x t ^ k * y t) := by
      funext t; rw [hgt_snoc, hl]; grind
    rw [e, sumN_add, ih, sumN_mul, h k (by omega)]
    grind
theorem thru_cm {ms : List Mk} (S : SW ms) (n4 : ms.length ≤ 4) {nu : List Rat} (hl : nu.length = ms.length) (h : ∀ m ∈ ms, hgt nu m.1 = m.2.1) : ∃ V : Nat, 0 < V ∧ V ≤ 10 ^ 134 ∧ ∀ q ∈ nu, Cm V (10 ^ 169) q := by
  obtain ⟨n, hn⟩ : ∃ n, ms.length = n := ⟨_, rfl⟩
  rw [hn] at n4 hl
  obtain ⟨rows, hr⟩ : ∃ rows : List Rw, (List.range n).map (fun k t => xL ms t ^ k) = rows := ⟨_, rfl⟩
  have rl : rows.length = n := by rw [← hr, List.length_map, List.length_range]
  have rat : ∀ i, i < n → rows.getD i (fun _ => 0) = fun t => xL ms t ^ i := fun i hi => by
    rw [getD_of (by omega)]
    subst hr
    rw [List.getElem_map, List.getElem_range]
  have cx : ∀ t, t < n → Cm 2 1100 (xL ms t) := fun t ht => by
    unfold xL
    rw [getD_of (by omega)]
    exact S.x _ (List.getElem_mem _)
  have cp : ∀ t, t < n → ∀ k, Cm (2 ^ k) (1100 ^ k) (xL ms t ^ k) := fun t ht k => by
    induction k with
    | zero => rw [Rat.pow_zero]; exact Cm.int (i := 1) (show 1 ≤ 1100 ^ 0 from Nat.le_refl _)
    | succ k ih => rw [Rat.pow_succ, Nat.pow_succ, Nat.pow_succ]; exact ih.mul (cx t ht)
  have c1 : ∀ r ∈ rows, ∀ j, j < n → Cm 8 (1100 ^ 3) (r j) := fun r hr' j hj => by
    rw [← hr] at hr'
    obtain ⟨i, hi, rfl⟩ := List.mem_map.mp hr'
    have hi' := List.mem_range.mp hi
    exact (cp j hj i).mono (Nat.pow_dvd_pow 2 (show i ≤ 3 by omega)) (Nat.pow_le_pow_right (by decide) (by omega))
  have c2 : ∀ j, j < n → Cm (8 * 2) (10 ^ 11) (sumN n fun i => nu.getD i 0 * rows.getD i (fun _ => 0) j) := fun j hj => by
    have e : (sumN n fun i => nu.getD i 0 * rows.getD i (fun _ => 0) j) = yL ms j := by
      have e1 : (sumN n fun i => nu.getD i 0 * rows.getD i (fun _ => 0) j) = hgt nu (xL ms j) := by
        rw [hgt_sumN hl]
        exact sumN_congr fun i hi => by rw [rat i hi]
      rw [e1]
      unfold xL yL
      rw [getD_of (show j < ms.length by omega)]
      exact h _ (List.getElem_mem _)
    rw [e]
    unfold yL
    rw [getD_of (show j < ms.length by omega)]
    exact (S.h _ (List.getElem_mem _)).mono (Nat.dvd_mul_left _ _) (Nat.le_refl _)
  have nd := S.nd
  have xl : (ms.map (·.1)).length = n := by rw [List.length_map, hn]
  have d0 : dD n rows ≠ 0 := fun z => by
    obtain ⟨y, ⟨j, hj, hy⟩, hk⟩ := (det_ker n rows rl).mp z
    have hp := pow_hgt (x := xL ms) (y := y) (n := n) fun k hk' => hk _ (by rw [← hr]; exact List.mem_map.mpr ⟨k, List.mem_range.mpr hk', rfl⟩)
    obtain ⟨p, hpe⟩ : ∃ p, lagP (ms.map (·.1)) (fun t => if t = j then 1 else 0) = p := ⟨_, rfl⟩
    have pl : p.length = n := by rw [← hpe, lagP_len, xl]
    have ph : ∀ t, t < n → hgt p (xL ms t) = if t = j then 1 else 0 := fun t ht => by
      have := lagP_hgt nd (fun t => if t = j then (1 : Rat) else 0) (s := t) (by omega)
      rw [hpe] at this
      rw [← this]
      congr 1
      unfold xL
      rw [getD_of (by omega), getD_of (by omega), List.getElem_map]
    have e := hp n p pl (Nat.le_refl _)
    rw [sumN_one (i := j) hj fun t ht ne => by rw [ph t ht, if_neg ne, Rat.zero_mul]] at e
    rw [ph j hj, if_pos rfl, Rat.one_mul] at e
    exact hy e
  obtain ⟨V, V0, V1, hV⟩ := cram rl (by decide) (by decide) (Nat.dvd_mul_right _ _) (by decide +kernel) d0 c1 c2
  have h5 : n = 0 ∨ n = 1 ∨ n = 2 ∨ n = 3 ∨ n = 4 := by omega
  refine ⟨V, V0, Nat.le_trans V1 ?_, fun q hq => ?_⟩
  · rcases h5 with e | e | e | e | e <;> rw [e] <;> decide +kernel
  · obtain ⟨k, hk, rfl⟩ := List.getElem_of_mem hq
    have := hV k (by omega)
    rw [getD_of hk] at this
    refine this.mono (Nat.dvd_refl _) ?_
    rcases h5 with e | e | e | e | e <;> rw [e] <;> decide +kernel
structure BSq (ms : List Mk) (bd : Nat) (nu pl : List Rat) : Prop where
  len : nu.length = bd + 1
  cm : ∃ V : Nat, 0 < V ∧ V ≤ 10 ^ 134 ∧ ∀ q ∈ nu, Cm V (10 ^ 169) q
  pl : pl = ms.map fun m => (m.2.2 : Rat) * (m.2.1 - hgt nu m.1)
  tail : ms.length ≤ bd + 1 → (∃ cs : List Rat, cs.length = ms.length ∧ nu = cs ++ List.replicate (bd + 1 - ms.length) 0) ∧ ∀ m ∈ ms, hgt nu m.1 = m.2.1
  sq : bd + 1 < ms.length → SqB ms bd nu
theorem bsq_thru {ms : List Mk} {bd : Nat} (S : SW ms) (b3 : bd ≤ 3) (hn : ms.length ≤ bd + 1) {cs : List Rat} (hl : cs.length = ms.length) (hc : ∀ m ∈ ms, hgt cs m.1 = m.2.1) : BSq ms bd (cs ++ List.replicate (bd + 1 - ms.length) 0) (List.replicate ms.length 0) where
  len := by rw [List.length_append, List.length_replicate]; omega
  cm := by
    obtain ⟨V, V0, V1, hV⟩ := thru_cm S (by omega) hl hc
    refine ⟨V, V0, V1, fun q hq => ?_⟩
    rcases List.mem_append.mp hq with hq | hq
    · exact hV q hq
    · rw [(List.mem_replicate.mp hq).2]; exact Cm.zero
  pl := by
    refine List.ext_getElem (by simp) fun i h1 h2 => ?_
    have hi : i < ms.length := by simpa using h2
    rw [List.getElem_replicate, List.getElem_map, hgt_noughts, hc _ (List.getElem_mem hi)]
    grind
  tail := fun _ => ⟨⟨cs, hl, rfl⟩, fun m hm => by rw [hgt_noughts]; exact hc m hm⟩
  sq := fun h => absurd h (by omega)
section
variable {P : Program} {w : World} {K : PySem.W.Frag} {mg : Str → Option Value} {base : Heap} {A : Adr}
noncomputable def wBendS : DW := fun ds Q _ => ∃ (ms : List Mk) (bd : Nat), ds = [.str "square", .list (ms.map mk3), .int (bd : Int)] ∧ bd ≤ 3 ∧ 1 ≤ ms.length ∧ SW ms ∧ ∀ nu pl : List Rat, BSq ms bd nu pl → Q (.two (nu.map fr) (pl.map fr))
theorem ok_bend_least (T : Txt K mg A) : FnOk P w K mg base (CXE P w) 9 A.a_bend_least A.d_bend_least ["kind", "marks", "bend"] (spW K wBendS) := by
  have G_is_bend := ok_is_bend (P := P) (w := w) (base := base) T
  have G_through_all := ok_through_all (P := P) (w := w) (base := base) T
  have G_bend_square := ok_bend_square (P := P) (w := w) (base := base) T
  refine okW T.F_bend_least sc_bend_least (fun ds Q E h => ?_) (fun cdv Ar outer s H E hr => ?_)
  · obtain ⟨_, _, rfl, _⟩ := h; rfl
  refine ⟨_, (pss_cons (ps_if (PW.pt (pw_or (pt_not (pt_val (pe_callB (isiDK (K := K) rfl) rfl T.n_isinstance bt_isinstance (pa_cons (pv 0) (pa_cons (pe_bltn rfl T.n_str bt_str (show RelV (.ty "str") (.type "str") from rfl)) pa_nil))))) (pw_or1 (pt_cmpR (notInTK (K := K) rfl hr.units) (pv 0) (pe_tup (pa_cons pe_str (pa_cons pe_str pa_nil))) rfl)))) (pss_one ps_no) pss_nil)
      (pss_cons (ps_if (pt_not (pt_val (pe_call G_is_bend (hr.mono (by decide)) rfl T.m_is_bend T.F_is_bend.kp T.b_is_bend .nil passE0 (pa_cons (pv 2) pa_nil)))) (pss_one ps_no) pss_nil)
      (pss_cons (ps_if (pt_cmpR op_le (pe_callB (lenK (K := K) rfl) rfl T.n_len PySem.boot_len (pa_cons (pv 1) pa_nil)) (pe_op op_add (pv 2) pe_int) (nomark _)) (pss_one (ps_ret (pe_call G_through_all (hr.mono (by decide)) rfl T.m_through_all T.F_through_all.kp T.b_through_all .nil passE0 (pa_cons (pv 1) (pa_cons (pv 2) pa_nil))))) pss_nil)
      (pss_cons (ps_if (pt_cmpR op_eq (pv 0) pe_str (nomark _)) (pss_one ps_no) pss_nil)
      (pss_one (ps_ret (pe_call G_bend_square (hr.mono (by decide)) rfl T.m_bend_square T.F_bend_square.kp T.b_bend_square .nil passE0 (pa_cons (pv 1) (pa_cons (pv 2) pa_nil))))))))), _, (sv_seq (sv_if (tv_or (tv_not (tv_b (bv_ev (ev_isi (by decide) (bv_var 0))))) (tv_test (bv_ev (ev_op ro_notInT (bv_var 0) (bv_ev (ev_tup (ae_cons ev_str (ae_cons ev_str ae_nil)) (by decide))))))) sv_no sv_next)
      (sv_seq (sv_if (tv_not (tv_b (bv_ev (ev_call0 (av_cons (bv_var 2) av_nil))))) sv_no sv_next)
      (sv_seq (sv_if (tv_test (bv_ev (ev_op ro_b0 (bv_ev (ev_cb rb_len (av_cons (bv_var 1) av_nil))) (bv_ev (ev_op ro_i0 (bv_var 2) (bv_ev ev_int)))))) (sv_retC20 (av_cons (bv_var 1) (av_cons (bv_var 2) av_nil))) sv_next)
      (sv_seq (sv_if (tv_test (bv_ev (ev_op ro_eq (bv_var 0) (bv_ev ev_str)))) sv_no sv_next)
      (sv_retC20 (av_cons (bv_var 1) (av_cons (bv_var 2) av_nil))))))), ?_⟩
  rintro ds Q X ⟨ms, bd, rfl, b3, n1, S, k⟩
  have n14 := S.n14
  walk_at "s"
  rw [if_neg (by decide)]
  refine ⟨_, eStr, ⟨"square", by decide +kernel⟩, [⟨"far", by decide +kernel⟩, ⟨"square", by decide +kernel⟩], rfl, rfl, fun b hb => ?_⟩
  rw [hb.mpr (by simp)]
  clear hb b
  walk_at "s"
  refine ⟨_, rfl, by omega, by omega, ?_⟩
  walk_at "d"
  walk_at "s"
  refine ite2 (fun c => ?_) (fun c => ?_)
  · exact ⟨ms, bd, 6, 13, rfl, n1, by omega, b3, S.nd, fun m hm => (S.x m hm).dg (by decide) (l := 1) (by decide) (b := 4) (by decide), fun m hm => (S.h m hm).dg (by decide) (l := 1) (by decide) (b := 11) (Nat.le_refl _), by decide, by decide, fun cs h1 h2 _ => k _ _ (bsq_thru S b3 (by omega) h1 h2)⟩
  · walk_at "s"
    rw [if_neg (by decide)]
    refine ⟨ms, bd, rfl, b3, by omega, S, fun ns h => ?_⟩
    rw [wmiss_map]
    exact k ns _ ⟨h.1, sq_nums S (by omega) (by omega) h.1 h.2, rfl, fun c => absurd c (by omega), fun _ => h⟩
end
noncomputable def cellZ (ns : List Int) (k : Int) : Int := ns.getD k.toNat 0
theorem cellZ_bg {ns : List Int} (h : ∀ v ∈ ns, Builtin.Int.intBits v ≤ 1048576) (k : Int) : Bg 1048577 (cellZ ns k) := by
  unfold cellZ
  exact Bg.of (getD_all (p := fun v => Builtin.Int.intBits v ≤ 1048576) (xs := ns) h (by decide))
section
variable {P : Program} {w : World} {K : PySem.W.Frag} {mg : Str → Option Value} {base : Heap} {A : Adr}
noncomputable def wCellZ : DW := fun ds Q _ => ∃ (ns : List Int) (k : Int), ds = [.list (ns.map .int), .int k] ∧ 0 ≤ k ∧ Q (.dat (.int (cellZ ns k)))
theorem ok_law_cell_at (T : Txt K mg A) : FnOk P w K mg base (CXE P w) 1 A.a_law_cell_at A.d_law_cell_at ["script", "k"] (spW K wCellZ) := by
  refine okW T.F_law_cell_at sc_law_cell_at (fun ds Q E h => ?_) (fun cdv Ar outer s H E hr => ?_)
  · obtain ⟨_, _, rfl, _⟩ := h; rfl
  refine ⟨_, (pss_cons (ps_if (pt_cmpR op_lt (pv 1) (pe_callB (lenK (K := K) rfl) rfl T.n_len PySem.boot_len (pa_cons (pv 0) pa_nil)) (nomark _)) (pss_one (ps_ret (pe_ix (ixlK (K := K) rfl) (pv 0) (pv 1) (fun _ _ => rfl)))) pss_nil)
      (pss_one (ps_ret pe_int))), _, (sv_seq (sv_if (tv_test (bv_ev (ev_op ro_b0 (bv_var 1) (bv_ev (ev_cb rb_len (av_cons (bv_var 0) av_nil)))))) (sv_ret (bv_ev (ev_ixl (lv_var 0) (bv_var 1)))) sv_next)
      (sv_ret (bv_ev ev_int))), ?_⟩
  rintro ds Q X ⟨ns, k, rfl, h0, kq⟩
  walk_at "s"
  refine ite2 (fun c => ?_) (fun c => ?_)
  · exact ⟨_, atI_mk PyData.int h0 c, kq⟩
  · walk_at "d"
    have e : cellZ ns k = 0 := by
      unfold cellZ
      rw [List.getD_eq_getElem?_getD, List.getElem?_eq_none (by omega)]
      rfl
    rw [e] at kq
    exact kq
noncomputable def wLowZ : DW := fun ds Q _ => ∃ t b : Int, ds = [.int t, .int b] ∧ b ≠ 0 ∧ Wee b ∧ Q (.dat (fr (Rat.divInt t b)))
theorem ok_law_low (T : Txt K mg A) : FnOk P w K mg base (CXE P w) 1 A.a_law_low A.d_law_low ["top", "bottom"] (spW K wLowZ) := by
  refine okW T.F_law_low sc_law_low (fun ds Q E h => ?_) (fun cdv Ar outer s H E hr => ?_)
  · obtain ⟨_, _, rfl, _⟩ := h; rfl
  refine ⟨_, (pss_cons (ps_set (i := 2) sc_law_low.nd rfl (Or.inl rfl) (pe_callB call_abs rfl T.n_abs bt_abs (pa_cons (pv 0) pa_nil)))
      (pss_cons (ps_set (i := 3) sc_law_low.nd rfl (Or.inl rfl) (pe_callB call_abs rfl T.n_abs bt_abs (pa_cons (pv 1) pa_nil)))
      (pss_cons (ps_while PassesOwn.leaving (pt_cmpR op_gt (pv 3) pe_int (nomark _)) (pss_one (ps_par (i := 2) (j := 3) rfl sc_law_low.nd rfl rfl (by decide) rfl rfl (pa_cons (pv 3) (pa_cons (pe_op op_mod (pv 2) (pv 3)) pa_nil)) rfl)))
      (pss_cons (ps_if (pt_cmpR op_lt (pv 1) pe_int (nomark _)) (pss_one (ps_set (i := 2) sc_law_low.nd rfl (Or.inl rfl) (pe_un un_neg (pv 2)))) pss_nil)
      (pss_one (ps_ret (pe_tup (pa_cons (pe_op op_fdivW (pv 0) (pv 2)) (pa_cons (pe_op op_fdivW (pv 1) (pv 2)) pa_nil))))))))), _, (sv_seq (sv_asg (ev_cb rb_abs (av_cons (bv_var 0) av_nil)) (gv_name 2))
      (sv_seq (sv_asg (ev_cb rb_abs (av_cons (bv_var 1) av_nil)) (gv_name 3))
      (sv_seq (sv_while (tv_test (bv_ev (ev_op ro_b0 (bv_var 3) (bv_ev ev_int)))) (sv_par 2 3 (ae_cons (ev_var 3) (ae_cons (ev_op ro_i (bv_var 2) (bv_var 3)) ae_nil))))
      (sv_cut (sv_if (tv_test (bv_ev (ev_op ro_b0 (bv_var 1) (bv_ev ev_int)))) (sv_asg (ev_neg (bv_var 2)) (gv_name 2)) sv_next)
      (sv_ret (bv_ev (ev_tup (ae_cons (ev_op ro_i (bv_var 0) (bv_var 2)) (ae_cons (ev_op ro_i (bv_var 1) (bv_var 2)) ae_nil)) (by decide)))))))), ?_⟩
  rintro ds Q X ⟨t, b, rfl, hb, hw, k⟩
  walk_at "s"
  walk_at "s"
  refine seq_mk ?_
  refine ⟨fun m δ => ∃ x y : Int, δ = [some (.dat (.int t)), some (.dat (.int b)), some (.dat (.int x)), some (.dat (.int y))] ∧ m = y.toNat ∧ 0 ≤ x ∧ 0 ≤ y ∧ Int.gcd x y = Int.gcd t b, ⟨_, _, _, rfl, rfl, by split <;> omega, by split <;> omega, by rw [Fm.abs_if, Fm.abs_if]; simp [Int.gcd]⟩, ?_⟩
  rintro m δ ⟨x, y, rfl, rfl, hx, hy, hg⟩
  walk_at "d"
  refine ite2 (fun c => ?_) (fun c => ?_)
  · refine ⟨c, _, ?_, y, x % y, rfl, rfl, hy, Int.emod_nonneg _ (by omega), ?_⟩
    · have := Int.emod_lt_of_pos x c
      have := Int.emod_nonneg x (show y ≠ 0 by omega)
      omega
    · rw [Fm.gcd_step x y c, hg]
  · have hy0 : y = 0 := by omega
    subst hy0
    have ex : x = ((Int.gcd t b : Nat) : Int) := by rw [← hg, Fm.gcd_zero hx]
    have h1 := Fm.gcd_pos_right (a := t) hb
    have h2 := wee_nat (Fm.gcd_le_right (a := t) hb) hw
    rw [ex]
    refine cut_mk (fun δ => δ = [some (.dat (.int t)), some (.dat (.int b)), some (.dat (.int (if b < 0 then -((Int.gcd t b : Nat) : Int) else ((Int.gcd t b : Nat) : Int)))), some (.dat (.int 0))]) ?_ ?_
    · walk_at "d"
      refine ite2 (fun c2 => ?_) (fun c2 => ?_)
      · rw [if_pos c2]
      · rw [if_neg c2]
    · rintro δ rfl
      walk_at "d"
      have hg0 : (if b < 0 then -((Int.gcd t b : Nat) : Int) else ((Int.gcd t b : Nat) : Int)) ≠ 0 := by split <;> omega
      have hg2 : Wee (if b < 0 then -((Int.gcd t b : Nat) : Int) else ((Int.gcd t b : Nat) : Int)) := by
        split
        · exact wee_neg h2
        · exact h2
      refine ⟨⟨hg0, hg2⟩, ⟨hg0, hg2⟩, ?_⟩
      rw [Fm.fr_num hb, Fm.fr_den hb]
      exact k
noncomputable def wTwoD (f : Rat → Rat → Rat) : DW := fun ds Q _ => ∃ (a b : Rat) (n m : Nat), ds = [fr a, fr b] ∧ Dg n a ∧ Dg m b ∧ n + m ≤ 2400 ∧ Q (.dat (fr (f a b)))
theorem ok_law_sum (T : Txt K mg A) : FnOk P w K mg base (CXE P w) 2 A.a_law_sum A.d_law_sum ["one", "other"] (spW K (wTwoD (· + ·))) := by
  have G_law_low := ok_law_low (P := P) (w := w) (base := base) T
  refine okW T.F_law_sum sc_law_sum (fun ds Q E h => ?_) (fun cdv Ar outer s H E hr => ?_)
  · obtain ⟨_, _, _, _, rfl, _⟩ := h; rfl
  refine ⟨_, (pss_one (ps_ret (pe_call G_law_low (hr.mono (by decide)) rfl T.m_law_low T.F_law_low.kp T.b_law_low .nil passE0 (pa_cons (pe_op op_add (pe_op op_mulB (pe_ix (ixtK (K := K) rfl) (pv 0) pe_int (fun _ _ => rfl)) (pe_ix (ixtK (K := K) rfl) (pv 1) pe_int (fun _ _ => rfl))) (pe_op op_mulB (pe_ix (ixtK (K := K) rfl) (pv 1) pe_int (fun _ _ => rfl)) (pe_ix (ixtK (K := K) rfl) (pv 0) pe_int (fun _ _ => rfl)))) (pa_cons (pe_op op_mulB (pe_ix (ixtK (K := K) rfl) (pv 0) pe_int (fun _ _ => rfl)) (pe_ix (ixtK (K := K) rfl) (pv 1) pe_int (fun _ _ => rfl))) pa_nil))))), _, (sv_ret (bv_ev (ev_call0 (av_cons (bv_ev (ev_op ro_i0 (bv_ev (ev_op ro_i (bv_ev (ev_ixk 0 (ev_var 0))) (bv_ev (ev_ixk 1 (ev_var 1))))) (bv_ev (ev_op ro_i (bv_ev (ev_ixk 0 (ev_var 1))) (bv_ev (ev_ixk 1 (ev_var 0))))))) (av_cons (bv_ev (ev_op ro_i (bv_ev (ev_ixk 1 (ev_var 0))) (bv_ev (ev_ixk 1 (ev_var 1))))) av_nil))))), ?_⟩
  rintro ds Q X ⟨a, b, n, m, rfl, ha, hb, l, k⟩
  have oa := dgOk ha (by omega)
  have ob := dgOk hb (by omega)
  walk_at "d"
  refine ⟨mulOk oa.n ob.d, mulOk ob.n oa.d, mulOk oa.d ob.d, _, _, rfl, den2_ne a b, den2_wee ha hb l, ?_⟩
  rw [add_divInt]
  walk_at "d"
  exact k
theorem ok_law_times (T : Txt K mg A) : FnOk P w K mg base (CXE P w) 2 A.a_law_times A.d_law_times ["one", "other"] (spW K (wTwoD (· * ·))) := by
  have G_law_low := ok_law_low (P := P) (w := w) (base := base) T
  refine okW T.F_law_times sc_law_times (fun ds Q E h => ?_) (fun cdv Ar outer s H E hr => ?_)
  · obtain ⟨_, _, _, _, rfl, _⟩ := h; rfl
  refine ⟨_, (pss_one (ps_ret (pe_call G_law_low (hr.mono (by decide)) rfl T.m_law_low T.F_law_low.kp T.b_law_low .nil passE0 (pa_cons (pe_op op_mulB (pe_ix (ixtK (K := K) rfl) (pv 0) pe_int (fun _ _ => rfl)) (pe_ix (ixtK (K := K) rfl) (pv 1) pe_int (fun _ _ => rfl))) (pa_cons (pe_op op_mulB (pe_ix (ixtK (K := K) rfl) (pv 0) pe_int (fun _ _ => rfl)) (pe_ix (ixtK (K := K) rfl) (pv 1) pe_int (fun _ _ => rfl))) pa_nil))))), _, (sv_ret (bv_ev (ev_call0 (av_cons (bv_ev (ev_op ro_i (bv_ev (ev_ixk 0 (ev_var 0))) (bv_ev (ev_ixk 0 (ev_var 1))))) (av_cons (bv_ev (ev_op ro_i (bv_ev (ev_ixk 1 (ev_var 0))) (bv_ev (ev_ixk 1 (ev_var 1))))) av_nil))))), ?_⟩
  rintro ds Q X ⟨a, b, n, m, rfl, ha, hb, l, k⟩
  have oa := dgOk ha (by omega)
  have ob := dgOk hb (by omega)
  walk_at "d"
  refine ⟨mulOk oa.n ob.n, mulOk oa.d ob.d, _, _, rfl, den2_ne a b, den2_wee ha hb l, ?_⟩
  rw [mul_divInt]
  walk_at "d"
  exact k
noncomputable def wLHgt : DW := fun ds Q _ => ∃ (ns : List Rat) (x : Rat) (a b : Nat), ds = [.list (ns.map fr), fr x] ∧ ns.length ≤ 4 ∧ (∀ n ∈ ns, Dg a n) ∧ Dg b x ∧ 4 * (a + b + 2) ≤ 2300 ∧ Q (.dat (fr (hgt ns x)))
theorem ok_law_height (T : Txt K mg A) : FnOk P w K mg base (CXE P w) 3 A.a_law_height A.d_law_height ["numbers", "x"] (spW K wLHgt) := by
  have G_law_sum := ok_law_sum (P := P) (w := w) (base := base) T
  have G_law_times := ok_law_times (P := P) (w := w) (base := base) T
  refine okW T.F_law_height sc_law_height (fun ds Q E h => ?_) (fun cdv Ar outer s H E hr => ?_)
  · obtain ⟨_, _, _, _, rfl, _⟩ := h; rfl
  refine ⟨_, (pss_cons (ps_set (i := 2) sc_law_height.nd rfl (Or.inl rfl) (pe_tup (pa_cons pe_int (pa_cons pe_int pa_nil))))
      (pss_cons (ps_for PassesOwn.leaving rfl (pi_reversed (K := K) rfl rfl T.n_reversed (pa_cons (pv 0) pa_nil)) (pg_name (i := 3) sc_law_height.nd rfl (Or.inl rfl))
        (pss_one (ps_set (i := 2) sc_law_height.nd rfl (Or.inl rfl) (pe_call G_law_sum (hr.mono (by decide)) rfl T.m_law_sum T.F_law_sum.kp T.b_law_sum .nil passE0 (pa_cons (pe_call G_law_times (hr.mono (by decide)) rfl T.m_law_times T.F_law_times.kp T.b_law_times .nil passE0 (pa_cons (pv 2) (pa_cons (pv 1) pa_nil))) (pa_cons (pv 3) pa_nil))))))
      (pss_one (ps_ret (pv 2))))), _, (sv_seq (sv_asg (ev_tup (ae_cons ev_int (ae_cons ev_int ae_nil)) (by decide)) (gv_name 2))
      (sv_seq (sv_for (is_rev (ev_var 0)) (gv_name 3)
        (sv_asg (ev_call0 (av_cons (bv_ev (ev_call0 (av_cons (bv_var 2) (av_cons (bv_var 1) av_nil)))) (av_cons (bv_var 3) av_nil))) (gv_name 2)))
      (sv_retV 2))), ?_⟩
  rintro ds Q X ⟨ns, x, a, b, rfl, hl, hn, hx, hs, k⟩
  walk_at "s"
  refine seq_mk (for_map fr ns.reverse (fun Q h => by
      walk_at "d"
      rw [← List.map_reverse]; exact h)
    (fun i δ => ∃ (q : Rat) (r : Option Sl), δ = [some (.dat (.list (ns.map fr))), some (.dat (fr x)), some (.dat (fr q)), r] ∧ q = (ns.reverse.take i).foldl (fun h n => h * x + n) 0 ∧ Dg (i * (a + b + 2)) q)
    ⟨0, _, rfl, rfl, Dg.zero⟩ ?_ ?_)
  · rintro i n δ hi ⟨q, r, rfl, hq, hd⟩
    have il : i < ns.length := by have := (List.getElem?_eq_some_iff.mp hi).1; simpa using this
    have hnn := hn n (by have := List.mem_of_getElem? hi; simpa using this)
    have hi4 : i * (a + b + 2) ≤ 3 * (a + b + 2) := Nat.mul_le_mul_right _ (by omega)
    have h1 := hd.mul hx
    have h2 := h1.add hnn
    walk_at "d"
    refine ⟨q, x, _, _, rfl, hd, hx, by omega, ?_⟩
    walk_at "d"
    refine ⟨_, n, _, _, rfl, h1, hnn, by omega, ?_⟩
    walk_at "d"
    refine ⟨_, _, rfl, ?_, h2.mono (by rw [Nat.add_mul]; omega)⟩
    rw [take_snoc hi, List.foldl_append, hq]
    rfl
  · rintro δ ⟨q, r, rfl, hq, hd⟩
    walk_at "d"
    rw [List.take_of_length_le (Nat.le_refl _)] at hq
    rw [hq]
    exact k
end
structure Mw (ms : List Mk) (p : Rat) : Prop where
  x : ∀ m ∈ ms, Cm 2 (1000 + 5 * ms.length) m.1 ∧ m.1 ≤ p
  h : ∀ m ∈ ms, Cm 2 (10 ^ 11) m.2.1
  w : ∀ m ∈ ms, 1 ≤ m.2.2 ∧ m.2.2 ≤ 5 * 10 ^ 9
  up : ms.Pairwise fun a b => a.1 < b.1
  p : Cm 2 (1000 + 5 * ms.length) p
theorem Mw.snoc {ms : List Mk} {p q h : Rat} {u : Int} (H : Mw ms p) (cq : Cm 2 5 q) (q0 : 0 < q) (ch : Cm 2 (10 ^ 11) h) (hu : 1 ≤ u ∧ u ≤ 5 * 10 ^ 9) : Mw (ms ++ [(p + q, h, u)]) (p + q) := by
  have c2 := H.p.add cq
  have el : (ms ++ [(p + q, h, u)]).length = ms.length + 1 := by rw [List.length_append]; rfl
  refine ⟨fun m hm => ?_, fun m hm => ?_, fun m hm => ?_, ?_, ?_⟩
  · rw [el]
    rcases List.mem_append.mp hm with hm | hm
    · have := H.x m hm
      exact ⟨this.1.mono (Nat.dvd_refl _) (by omega), by grind⟩
    · rw [List.mem_singleton.mp hm]
      exact ⟨c2.mono (Nat.dvd_refl _) (by omega), Rat.le_refl⟩
  · rcases List.mem_append.mp hm with hm | hm
    · exact H.h m hm
    · rw [List.mem_singleton.mp hm]; exact ch
  · rcases List.mem_append.mp hm with hm | hm
    · exact H.w m hm
    · rw [List.mem_singleton.mp hm]; exact hu
  · refine List.pairwise_append.mpr ⟨H.up, List.pairwise_singleton _ _, fun a ha b' hb' => ?_⟩
    rw [List.mem_singleton.mp hb']
    have := H.x a ha
    show a.1 < p + q
    grind
  · rw [el]
    exact c2.mono (Nat.dvd_refl _) (by omega)
theorem up_nd {ms : List Mk} (up : ms.Pairwise fun a b => a.1 < b.1) : (ms.map (·.1)).Nodup := by
  rw [List.nodup_iff_pairwise_ne, List.pairwise_map]
  exact up.imp fun h => by grind
theorem Mw.sw {p : Rat} {ms : List Mk} (H : Mw ms p) (n14 : ms.length ≤ 14) : SW ms where
  n14 := n14
  x := fun m hm => (H.x m hm).1.mono (Nat.dvd_refl _) (by omega)
  w := H.w
  h := H.h
  nd := up_nd H.up
theorem low_cm {t b : Int} {B : Nat} (b1 : 1 ≤ b) (b2 : b ≤ 2) (h : t.natAbs ≤ B) : Cm 2 B (Rat.divInt t b) := by
  obtain ⟨n, rfl, n0, n2⟩ : ∃ n : Nat, b = (n : Int) ∧ 0 < n ∧ n ≤ 2 := ⟨b.toNat, by omega, by omega, by omega⟩
  have bd : n ∣ 2 := by
    have : n = 1 ∨ n = 2 := by omega
    rcases this with rfl | rfl <;> decide
  exact Cm.div n0 bd (Nat.le_trans h (Nat.le_mul_of_pos_right _ n0))
theorem low_pos {t b : Int} (b1 : 1 ≤ b) (h : 1 ≤ t) : 0 < Rat.divInt t b := by
  rw [Fm.mk_div _ _ (by omega), Rat.div_def]
  exact Rat.mul_pos (Rat.intCast_pos.mpr (by omega)) (Rat.inv_pos.mpr (Rat.intCast_pos.mpr (by omega)))
theorem cutL_le {α : Type} (xs : List α) (a b : Nat) : (cutL xs (some (a : Int)) (some (b : Int))).length ≤ b := by
  unfold cutL
  rw [HT.sIx_nat, HT.sIx_nat, List.length_take]
  omega
section
variable {P : Program} {w : World} {K : PySem.W.Frag} {mg : Str → Option Value} {base : Heap} {A : Adr}
noncomputable def wMarksW : DW := fun ds Q _ => ∃ ns : List Int, ds = [.list (ns.map .int)] ∧ ns.length ≤ 63 ∧ (∀ v ∈ ns, Builtin.Int.intBits v ≤ 1048576) ∧ ∀ (p : Rat) (ms : List Mk), 1 ≤ ms.length → ms.length ≤ 14 → Mw ms p → Q (.own (ms.map mk3))
theorem ok_law_marks (T : Txt K mg A) : FnOk P w K mg base (CXE P w) 3 A.a_law_marks A.d_law_marks ["script"] (spW K wMarksW) := by
  have G_law_cell_at := ok_law_cell_at (P := P) (w := w) (base := base) T
  have G_law_low := ok_law_low (P := P) (w := w) (base := base) T
  have G_law_sum := ok_law_sum (P := P) (w := w) (base := base) T
  have G_law_times := ok_law_times (P := P) (w := w) (base := base) T
  refine okW T.F_law_marks sc_law_marks (fun ds Q E h => ?_) (fun cdv Ar outer s H E hr => ?_)
  · obtain ⟨_, rfl, _⟩ := h; rfl
  refine ⟨_, (pss_cons (ps_set (i := 1) sc_law_marks.nd rfl (Or.inl rfl) (pe_call G_law_cell_at (hr.mono (by decide)) rfl T.m_law_cell_at T.F_law_cell_at.kp T.b_law_cell_at .nil passE0 (pa_cons (pv 0) (pa_cons pe_int pa_nil))))
      (pss_cons (ps_set (i := 2) sc_law_marks.nd rfl (Or.inl rfl) (pe_call G_law_cell_at (hr.mono (by decide)) rfl T.m_law_cell_at T.F_law_cell_at.kp T.b_law_cell_at .nil passE0 (pa_cons (pv 0) (pa_cons pe_int pa_nil))))
      (pss_cons (ps_set (i := 3) sc_law_marks.nd rfl (Or.inl rfl) (pe_tup (pa_cons (pe_op op_sub (pe_op op_mod (pv 2) pe_int) pe_int) (pa_cons pe_int pa_nil))))
      (pss_cons (ps_set (i := 4) sc_law_marks.nd rfl (Or.inl rfl) (pe_op op_add pe_int (pe_op op_mulB (pe_op op_mod (pe_op op_fdivB (pv 1) pe_int) pe_int) (pe_op op_mod (pe_op op_mulB (pv 2) pe_int) (pe_op op_pow pe_int pe_int)))))
      (pss_cons (ps_set (i := 5) sc_law_marks.nd rfl (Or.inl rfl) (pe_op op_add pe_int (pe_op op_mulB (pe_op op_mod (pe_op op_fdivB (pv 1) pe_int) pe_int) (pe_op op_mod (pe_op op_mulB (pv 2) pe_int) (pe_op op_pow pe_int pe_int)))))
      (pss_cons (ps_set (i := 6) sc_law_marks.nd rfl (Or.inl rfl) (pe_lst pa_nil))
      (pss_cons (ps_set (i := 7) sc_law_marks.nd rfl (Or.inl rfl) (pe_op op_add pe_int (pe_op op_mulB pe_int (pe_callTy call_int1 rfl T.n_int bt_int (pa_cons (pe_cmpR op_eq (pe_op op_mod (pe_op op_fdivB (pv 1) pe_int) pe_int) pe_int (nomark _)) pa_nil)))))
      (pss_cons (ps_for PassesOwn.leaving rfl (pilK (K := K) rfl (pe_slice (sllK (K := K) rfl) (pe_op op_cat (pe_slice (sllK (K := K) rfl) (pv 0) (po_some pe_int) (po_some pe_int)) (pe_lst (pa_cons pe_int pa_nil))) po_none (po_some (pe_callB (call_max2 rfl) rfl T.n_max bt_max (pa_cons pe_int (pa_cons (pe_callB (call_min2 rfl) rfl T.n_min bt_min (pa_cons (pe_op op_sub (pe_callB (lenK (K := K) rfl) rfl T.n_len PySem.boot_len (pa_cons (pv 0) pa_nil)) pe_int) (pa_cons (pv 7) pa_nil))) pa_nil)))))) (pg_name (i := 8) sc_law_marks.nd rfl (Or.inl rfl))
        (pss_cons (ps_set (i := 3) sc_law_marks.nd rfl (Or.inl rfl) (pe_call G_law_sum (hr.mono (by decide)) rfl T.m_law_sum T.F_law_sum.kp T.b_law_sum .nil passE0 (pa_cons (pv 3) (pa_cons (pe_call G_law_low (hr.mono (by decide)) rfl T.m_law_low T.F_law_low.kp T.b_law_low .nil passE0 (pa_cons (pe_op op_add pe_int (pe_op op_mod (pv 8) pe_int)) (pa_cons (pe_op op_add pe_int (pe_op op_mod (pe_op op_fdivB (pv 8) pe_int) pe_int)) pa_nil))) pa_nil))))
      (pss_cons (ps_set (i := 9) sc_law_marks.nd rfl (Or.inl rfl) (pe_call G_law_low (hr.mono (by decide)) rfl T.m_law_low T.F_law_low.kp T.b_law_low .nil passE0 (pa_cons (pe_op op_sub (pe_op op_mod (pe_op op_fdivB (pv 8) pe_int) pe_int) pe_int) (pa_cons (pe_op op_add pe_int (pe_op op_mod (pe_op op_fdivB (pv 8) pe_int) pe_int)) pa_nil))))
      (pss_one (ps_expr (pe_bm PySem.F.plainAttrs_list PySem.F.slot_list_append PySem.F.type_list_append mt_append (pv 6) (pa_cons (pe_tup (pa_cons (pv 3) (pa_cons (pe_call G_law_times (hr.mono (by decide)) rfl T.m_law_times T.F_law_times.kp T.b_law_times .nil passE0 (pa_cons (pv 9) (pa_cons (pe_tup (pa_cons (pv 4) (pa_cons pe_int pa_nil))) pa_nil))) (pa_cons (pe_op op_mulB (pe_op op_add pe_int (pe_op op_mod (pe_op op_fdivB (pv 8) pe_int) pe_int)) (pv 5)) pa_nil)))) pa_nil)))))))
      (pss_one (ps_ret (pv 6))))))))))), _, (sv_seq (sv_asg (ev_call0 (av_cons (bv_var 0) (av_cons (bv_ev ev_int) av_nil))) (gv_name 1))
      (sv_seq (sv_asg (ev_call0 (av_cons (bv_var 0) (av_cons (bv_ev ev_int) av_nil))) (gv_name 2))
      (sv_seq (sv_asg (ev_tup (ae_cons (ev_op ro_i0 (bv_ev (ev_mdk (k := 2001) (by decide) (bv_var 2) ev_int)) (bv_ev ev_int)) (ae_cons ev_int ae_nil)) (by decide)) (gv_name 3))
      (sv_cut (sv_asg (ev_op ro_i0 (bv_ev ev_int) (bv_ev (ev_op ro_i (bv_ev (ev_mdk (k := 2) (by decide) (bv_ev (ev_dvk (k := 4) (cdiv (by decide +kernel)) (bv_var 1) ev_int)) ev_int)) (bv_ev (ev_mdk (k := 1000000000) (by decide) (bv_ev (ev_op ro_i (bv_var 2) (bv_ev ev_int))) (ev_k (v := 1000000000) (ev_op ro_i (bv_ev ev_int) (bv_ev ev_int)) (fun ex δ Q h => ⟨cpow (by decide +kernel), Eq.mpr (congrArg (fun z => Q (.int z)) (by decide +kernel : ((10 ^ Int.toNat 9) : Int) = 1000000000)) h⟩))))))) (gv_name 4))
      (sv_cut (sv_asg (ev_op ro_i0 (bv_ev ev_int) (bv_ev (ev_op ro_i (bv_ev (ev_mdk (k := 2) (by decide) (bv_ev (ev_dvk (k := 8) (cdiv (by decide +kernel)) (bv_var 1) ev_int)) ev_int)) (bv_ev (ev_mdk (k := 1000000000) (by decide) (bv_ev (ev_op ro_i (bv_var 2) (bv_ev ev_int))) (ev_k (v := 1000000000) (ev_op ro_i (bv_ev ev_int) (bv_ev ev_int)) (fun ex δ Q h => ⟨cpow (by decide +kernel), Eq.mpr (congrArg (fun z => Q (.int z)) (by decide +kernel : ((10 ^ Int.toNat 9) : Int) = 1000000000)) h⟩))))))) (gv_name 5))
      (sv_seq (sv_setO 6 (ov_lst ae_nil (by decide)))
      (sv_seq (sv_asg (ev_op ro_i0 (bv_ev ev_int) (bv_ev (ev_op ro_i (bv_ev ev_int) (bv_ev (ev_cb rb_int (av_cons (bv_ev (ev_op ro_eq (bv_ev (ev_mdk (k := 16) (by decide) (bv_ev (ev_dvk (k := 64) (cdiv (by decide +kernel)) (bv_var 1) ev_int)) ev_int)) (bv_ev ev_int))) av_nil)))))) (gv_name 7))
      (sv_seq (sv_for (is_list (ev_ov (ov_sl (lv_ov (ov_cat (mv_ov (ov_sl (lv_var 0) (op_part (bv_ev ev_int)) (op_part (bv_ev ev_int)))) (mv_ov (ov_lst (ae_cons ev_int ae_nil) (by decide))))) op_no (op_part (bv_ev (ev_cb rb_max (av_cons (bv_ev ev_int) (av_cons (bv_ev (ev_cb rb_min (av_cons (bv_ev (ev_op ro_i0 (bv_ev (ev_cb rb_len (av_cons (bv_var 0) av_nil))) (bv_ev ev_int))) (av_cons (bv_var 7) av_nil)))) av_nil)))))))) (gv_name 8)
        (sv_seq (sv_asg (ev_call0 (av_cons (bv_var 3) (av_cons (bv_ev (ev_call0 (av_cons (bv_ev (ev_op ro_i0 (bv_ev ev_int) (bv_ev (ev_mdk (k := 5) (by decide) (bv_var 8) ev_int)))) (av_cons (bv_ev (ev_op ro_i0 (bv_ev ev_int) (bv_ev (ev_mdk (k := 2) (by decide) (bv_ev (ev_dvk (k := 5) (cdiv (by decide +kernel)) (bv_var 8) ev_int)) ev_int)))) av_nil)))) av_nil))) (gv_name 3))
      (sv_seq (sv_asg (ev_call0 (av_cons (bv_ev (ev_op ro_i0 (bv_ev (ev_mdk (k := 13) (by decide) (bv_ev (ev_dvk (k := 10) (cdiv (by decide +kernel)) (bv_var 8) ev_int)) ev_int)) (bv_ev ev_int))) (av_cons (bv_ev (ev_op ro_i0 (bv_ev ev_int) (bv_ev (ev_mdk (k := 2) (by decide) (bv_ev (ev_dvk (k := 130) (cdiv (by decide +kernel)) (bv_var 8) ev_int)) ev_int)))) av_nil))) (gv_name 9))
      (sv_app 6 (ev_tup (ae_cons (ev_var 3) (ae_cons (ev_call0 (av_cons (bv_var 9) (av_cons (bv_ev (ev_tup (ae_cons (ev_var 4) (ae_cons ev_int ae_nil)) (by decide))) av_nil))) (ae_cons (ev_op ro_i (bv_ev (ev_op ro_i0 (bv_ev ev_int) (bv_ev (ev_mdk (k := 5) (by decide) (bv_ev (ev_dvk (k := 260) (cdiv (by decide +kernel)) (bv_var 8) ev_int)) ev_int)))) (bv_var 5)) ae_nil))) (by decide))))))
      (sv_retV 6))))))))), ?_⟩
  rintro ds Q X ⟨ns, rfl, hlen, hbits, k⟩
  have bg : ∀ j : Int, Bg 1048577 (cellZ ns j) := fun j => cellZ_bg hbits j
  walk_at "s"
  refine ⟨ns, 0, rfl, by decide, ?_⟩
  walk_at "d"
  obtain ⟨sh, hsh⟩ : ∃ sh, cellZ ns 0 = sh := ⟨_, rfl⟩
  rw [hsh]
  walk_at "s"
  refine ⟨ns, 1, rfl, by decide, ?_⟩
  walk_at "d"
  obtain ⟨fa, hfa⟩ : ∃ fa, cellZ ns 1 = fa := ⟨_, rfl⟩
  have bf : Bg 1048577 fa := by rw [← hfa]; exact bg 1
  rw [hfa]
  walk_at "s"
  obtain ⟨p0, hp0, pb⟩ : ∃ p0 : Int, fa % 2001 - 1000 = p0 ∧ p0.natAbs ≤ 1000 := ⟨_, rfl, by omega⟩
  rw [hp0]
  have big : ∀ (y z : Int), 0 ≤ y → y ≤ 1 → ∃ tl : Int, 1 + y * (z % 1000000000) = tl ∧ 1 ≤ tl ∧ tl ≤ 10 ^ 9 := fun y z y0 y1 => by
    have hy2 : y = 0 ∨ y = 1 := by omega
    rcases hy2 with rfl | rfl
    · exact ⟨1, by omega, by decide, by decide⟩
    · exact ⟨1 + z % 1000000000, by omega, by omega, by omega⟩
  refine cut_mk (fun δ => ∃ tl : Int, δ = [some (.dat (.list (ns.map .int))), some (.dat (.int sh)), some (.dat (.int fa)), some (.dat (fr (p0 : Rat))), some (.dat (.int tl)), none, none, none, none, none] ∧ 1 ≤ tl ∧ tl ≤ 10 ^ 9) ?_ ?_
  · walk_at "d"
    refine ⟨mulOkBig (Nat.le_trans bf.bits (by decide)) (wee (by decide +kernel)), ?_⟩
    obtain ⟨z, hz⟩ : ∃ z : Int, fa * 48271 = z := ⟨_, rfl⟩
    rw [hz]
    refine ⟨mulOk (weeLe (n := 1) (by omega) (by decide +kernel)) (weeLe (n := 1000000000) (by omega) (by decide +kernel)), ?_⟩
    obtain ⟨tl, htl, t0, t1⟩ := big (sh / 4 % 2) z (by omega) (by omega)
    rw [htl]
    exact ⟨tl, rfl, t0, t1⟩
  rintro δ ⟨tl, rfl, t0, t1⟩
  refine cut_mk (fun δ => ∃ hv : Int, δ = [some (.dat (.list (ns.map .int))), some (.dat (.int sh)), some (.dat (.int fa)), some (.dat (fr (p0 : Rat))), some (.dat (.int tl)), some (.dat (.int hv)), none, none, none, none] ∧ 1 ≤ hv ∧ hv ≤ 10 ^ 9) ?_ ?_
  · walk_at "d"
    refine ⟨mulOkBig (Nat.le_trans bf.bits (by decide)) (wee (by decide +kernel)), ?_⟩
    obtain ⟨z, hz⟩ : ∃ z : Int, fa * 69621 = z := ⟨_, rfl⟩
    rw [hz]
    refine ⟨mulOk (weeLe (n := 1) (by omega) (by decide +kernel)) (weeLe (n := 1000000000) (by omega) (by decide +kernel)), ?_⟩
    obtain ⟨hv, hhv, hv0, hv1⟩ := big (sh / 8 % 2) z (by omega) (by omega)
    rw [hhv]
    exact ⟨hv, rfl, hv0, hv1⟩
  rintro δ ⟨hv, rfl, hv0, hv1⟩
  walk_at "s"
  walk_at "s"
  refine ⟨mulOk (wee (by decide +kernel)) (weeLe (n := 1) (by split <;> decide) (by decide +kernel)), ?_⟩
  obtain ⟨mo, hmo, mo0, mo1⟩ : ∃ mo : Int, 7 + 7 * (if sh / 64 % 16 = 1 then 1 else 0) = mo ∧ 7 ≤ mo ∧ mo ≤ 14 := by
    split
    · exact ⟨14, rfl, by decide, by decide⟩
    · exact ⟨7, rfl, by decide, by decide⟩
  rw [hmo]
  obtain ⟨v, hvv, v1, v14⟩ : ∃ v : Nat, max 1 (min ((ns.length : Int) - 2) mo) = (v : Int) ∧ 1 ≤ v ∧ v ≤ 14 := ⟨(max 1 (min ((ns.length : Int) - 2) mo)).toNat, by omega, by omega, by omega⟩
  obtain ⟨cs, hcs⟩ : ∃ cs : List Int, (cutL ns (some 2) (some 16) ++ [0]).take v = cs := ⟨_, rfl⟩
  have c1 : 1 ≤ cs.length := by rw [← hcs, List.length_take, List.length_append]; simp; omega
  have c6 : cs.length ≤ 14 := by rw [← hcs, List.length_take]; omega
  refine seq_mk (for_map PyData.int cs (fun Q h => by
      walk_at "d"
      have e0 : (if (if mo < (ns.length : Int) - 2 then mo else (ns.length : Int) - 2) > 1 then if mo < (ns.length : Int) - 2 then mo else (ns.length : Int) - 2 else 1) = (v : Int) := by
        rw [← hvv]
        split <;> split <;> omega
      have l0 : (cutL ns (some 2) (some 16)).length ≤ 16 := cutL_le ns 2 16
      rw [cutL_map, show [PyData.int 0] = [(0 : Int)].map PyData.int from rfl, ← List.map_append, e0, cutL_map, cutL_hi]
      refine ⟨by rw [List.length_map]; omega, ?_⟩
      rw [hcs]
      exact h)
    (fun i δ => ∃ (p : Rat) (ms : List Mk) (o8 o9 : Option PyData), δ = [some (.dat (.list (ns.map .int))), some (.dat (.int sh)), some (.dat (.int fa)), some (.dat (fr p)), some (.dat (.int tl)), some (.dat (.int hv)), some (.own (ms.map mk3)), some (.dat (.int mo)), o8.map Sl.dat, o9.map Sl.dat] ∧ ms.length = i ∧ Mw ms p)
    ⟨(p0 : Rat), [], none, none, rfl, rfl, ⟨(fun m h => nomatch h), (fun m h => nomatch h), (fun m h => nomatch h), List.Pairwise.nil, (Cm.int (B := 1000 + 5 * 0) pb).mono (Nat.one_dvd _) (Nat.le_refl _)⟩⟩ ?_ ?_)
  · rintro i c δ hi ⟨p, ms, o8, o9, rfl, ml, hm⟩
    have il : i < cs.length := (List.getElem?_eq_some_iff.mp hi).1
    walk_at "s"
    refine ⟨_, _, rfl, by omega, weeLe (n := 2) (by omega) (by decide +kernel), ?_⟩
    have cq := low_cm (t := 1 + c % 5) (b := 1 + c / 5 % 2) (B := 5) (by omega) (by omega) (by omega)
    have q0 := low_pos (t := 1 + c % 5) (b := 1 + c / 5 % 2) (by omega) (by omega)
    generalize Rat.divInt (1 + c % 5) (1 + c / 5 % 2) = q at cq q0 ⊢
    walk_at "d"
    refine ⟨p, q, 6, 3, rfl, hm.p.dg (by decide) (l := 1) (by decide) (b := 4) (by omega), cq.dg (by decide) (l := 1) (by decide) (b := 1) (by decide), by decide, ?_⟩
    walk_at "d"
    walk_at "s"
    refine ⟨_, _, rfl, by omega, weeLe (n := 2) (by omega) (by decide +kernel), ?_⟩
    have ch := low_cm (t := c / 10 % 13 - 6) (b := 1 + c / 130 % 2) (B := 6) (by omega) (by omega) (by omega)
    generalize Rat.divInt (c / 10 % 13 - 6) (1 + c / 130 % 2) = h at ch ⊢
    obtain ⟨u, hu, u1, u5⟩ : ∃ u : Int, 1 + c / 260 % 5 = u ∧ 1 ≤ u ∧ u ≤ 5 := ⟨_, rfl, by omega, by omega⟩
    rw [hu]
    walk_at "d"
    have ct : Cm 1 (10 ^ 9) (tl : Rat) := Cm.int (by omega)
    refine ⟨h, (tl : Rat), 3, 10, rfl, ch.dg (by decide) (l := 1) (by decide) (b := 1) (by decide), Dg.int (by omega), by decide, ?_⟩
    walk_at "d"
    have uh : 1 ≤ u * hv ∧ u * hv ≤ 5 * 10 ^ 9 := by
      have : u = 1 ∨ u = 2 ∨ u = 3 ∨ u = 4 ∨ u = 5 := by omega
      rcases this with rfl | rfl | rfl | rfl | rfl <;> omega
    have nx := hm.snoc (h := h * (tl : Rat)) (u := u * hv) cq q0 ((ch.mul ct).mono (by decide) (by decide)) uh
    refine ⟨mulOk (weeLe (n := 5) (by omega) (by decide +kernel)) (weeLe (n := 1000000000) (by omega) (by decide +kernel)), ?_⟩
    obtain ⟨uv, huv⟩ : ∃ uv, u * hv = uv := ⟨_, rfl⟩
    rw [huv] at nx ⊢
    exact ⟨by omega, p + q, ms ++ [(p + q, h * (tl : Rat), uv)], some _, some _, by rw [List.map_append]; rfl, by rw [List.length_append, ml]; rfl, nx⟩
  rintro δ ⟨p, ms, o8, o9, rfl, ml, hm⟩
  walk_at "d"
  exact k p ms (by omega) (by omega) hm
noncomputable def wIsFr : DW := fun ds Q _ => ∃ (qs : List Rat) (n : Nat), ds = [.list (qs.map fr), .int (n : Int)] ∧ qs.length = n ∧ n ≤ 60 ∧ (∀ q ∈ qs, Ok q) ∧ Q (.dat (.bool true))
theorem ok_law_is_fractions (T : Txt K mg A) : FnOk P w K mg base (CXE P w) 2 A.a_law_is_fractions A.d_law_is_fractions ["found", "many"] (spW K wIsFr) := by
  have G_law_low := ok_law_low (P := P) (w := w) (base := base) T
  refine okW T.F_law_is_fractions sc_law_is_fractions (fun ds Q E h => ?_) (fun cdv Ar outer s H E hr => ?_)
  · obtain ⟨_, _, rfl, _⟩ := h; rfl
  refine ⟨_, (pss_cons (ps_if (PW.pt (pw_or (pt_not (pt_val (pe_callB (isiDK (K := K) rfl) rfl T.n_isinstance bt_isinstance (pa_cons (pv 0) (pa_cons (pe_bltn rfl T.n_list bt_list (show RelV (.ty "list") (.type "list") from rfl)) pa_nil))))) (pw_or1 (pt_cmpR op_ne (pe_callB (lenK (K := K) rfl) rfl T.n_len PySem.boot_len (pa_cons (pv 0) pa_nil)) (pv 1) (nomark _))))) (pss_one (ps_ret pe_bl)) pss_nil)
      (pss_cons (ps_for PassesOwn.leaving rfl (pilK (K := K) rfl (pv 0)) (pg_name (i := 2) sc_law_is_fractions.nd rfl (Or.inl rfl))
        (pss_cons (ps_if (PW.pt (pw_or (pt_not (pt_val (pe_callB (isiDK (K := K) rfl) rfl T.n_isinstance bt_isinstance (pa_cons (pv 2) (pa_cons (pe_bltn rfl T.n_tuple bt_tuple (show RelV (.ty "tuple") (.type "tuple") from rfl)) pa_nil))))) (pw_or (pt_cmpR op_ne (pe_callB (lenK (K := K) rfl) rfl T.n_len PySem.boot_len (pa_cons (pv 2) pa_nil)) pe_int (nomark _)) (pw_or (pt_val (pe_callB (isiDK (K := K) rfl) rfl T.n_isinstance bt_isinstance (pa_cons (pe_ix (ixtK (K := K) rfl) (pv 2) pe_int (fun _ _ => rfl)) (pa_cons (pe_bltn rfl T.n_bool bt_bool (show RelV (.ty "bool") (.type "bool") from rfl)) pa_nil)))) (pw_or1 (pt_val (pe_callB (isiDK (K := K) rfl) rfl T.n_isinstance bt_isinstance (pa_cons (pe_ix (ixtK (K := K) rfl) (pv 2) pe_int (fun _ _ => rfl)) (pa_cons (pe_bltn rfl T.n_bool bt_bool (show RelV (.ty "bool") (.type "bool") from rfl)) pa_nil))))))))) (pss_one (ps_ret pe_bl)) pss_nil)
      (pss_one (ps_if (PW.pt (pw_or (pt_not (pt_val (pe_callB (isiDK (K := K) rfl) rfl T.n_isinstance bt_isinstance (pa_cons (pe_ix (ixtK (K := K) rfl) (pv 2) pe_int (fun _ _ => rfl)) (pa_cons (pe_bltn rfl T.n_int bt_int (show RelV (.ty "int") (.type "int") from rfl)) pa_nil))))) (pw_or (pt_not (pt_val (pe_callB (isiDK (K := K) rfl) rfl T.n_isinstance bt_isinstance (pa_cons (pe_ix (ixtK (K := K) rfl) (pv 2) pe_int (fun _ _ => rfl)) (pa_cons (pe_bltn rfl T.n_int bt_int (show RelV (.ty "int") (.type "int") from rfl)) pa_nil))))) (pw_or (pt_cmpR op_lt (pe_ix (ixtK (K := K) rfl) (pv 2) pe_int (fun _ _ => rfl)) pe_int (nomark _)) (pw_or1 (pt_cmpR (neK (K := K) rfl hr.units) (pe_call G_law_low (hr.mono (by decide)) rfl T.m_law_low T.F_law_low.kp T.b_law_low .nil passE0 (pa_cons (pe_ix (ixtK (K := K) rfl) (pv 2) pe_int (fun _ _ => rfl)) (pa_cons (pe_ix (ixtK (K := K) rfl) (pv 2) pe_int (fun _ _ => rfl)) pa_nil))) (pv 2) (nomark _))))))) (pss_one (ps_ret pe_bl)) pss_nil))))
      (pss_one (ps_ret pe_bl)))), _, (sv_seq (sv_if (tv_or (tv_not (tv_b (bv_ev (ev_isi (by decide) (bv_var 0))))) (tv_test (bv_ev (ev_op ro_ne (bv_ev (ev_cb rb_len (av_cons (bv_var 0) av_nil))) (bv_var 1))))) (sv_ret (bv_ev ev_bl)) sv_next)
      (sv_seq (sv_for (is_list (ev_var 0)) (gv_name 2)
        (sv_seq (sv_if (tv_or (tv_not (tv_b (bv_ev (ev_isi (by decide) (bv_var 2))))) (tv_or (tv_test (bv_ev (ev_op ro_ne (bv_ev (ev_cb rb_len (av_cons (bv_var 2) av_nil))) (bv_ev ev_int)))) (tv_or (tv_b (bv_ev (ev_isi (by decide) (bv_ev (ev_ixk 0 (ev_var 2)))))) (tv_b (bv_ev (ev_isi (by decide) (bv_ev (ev_ixk 1 (ev_var 2))))))))) (sv_ret (bv_ev ev_bl)) sv_next)
      (sv_if (tv_or (tv_not (tv_b (bv_ev (ev_isi (by decide) (bv_ev (ev_ixk 0 (ev_var 2))))))) (tv_or (tv_not (tv_b (bv_ev (ev_isi (by decide) (bv_ev (ev_ixk 1 (ev_var 2))))))) (tv_or (tv_test (bv_ev (ev_op ro_b0 (bv_ev (ev_ixk 1 (ev_var 2))) (bv_ev ev_int)))) (tv_test (bv_ev (ev_op ro_neD (bv_ev (ev_call0 (av_cons (bv_ev (ev_ixk 0 (ev_var 2))) (av_cons (bv_ev (ev_ixk 1 (ev_var 2))) av_nil)))) (bv_var 2))))))) (sv_ret (bv_ev ev_bl)) sv_next)))
      (sv_ret (bv_ev ev_bl)))), ?_⟩
  rintro ds Q X ⟨qs, n, rfl, ql, n60, ok, k⟩
  walk_at "s"
  rw [if_neg (by decide), if_neg (by omega)]
  refine seq_mk (for_map fr qs (fun Q h => by walk_at "d"; exact h)
    (fun i δ => ∃ o2 : Option PyData, δ = [some (.dat (.list (qs.map fr))), some (.dat (.int (n : Int))), o2.map Sl.dat])
    ⟨none, rfl⟩ ?_ ?_)
  · rintro i q δ hi ⟨o2, rfl⟩
    have oq := ok q (List.mem_of_getElem? hi)
    have dp := Fm.den_pos q
    have eq : Rat.divInt q.num (q.den : Int) = q := Rat.num_divInt_den q
    walk_at "s"
    rw [if_neg (by decide), if_neg (by decide), if_neg (by decide), if_neg (by decide), if_neg (by decide), if_neg (by decide), if_neg (by omega)]
    refine ⟨q.num, (q.den : Int), rfl, by omega, oq.d, ?_⟩
    rw [eq]
    walk_at "d"
    refine ⟨Rat, eRat, q, q, rfl, rfl, fun v hv => ?_⟩
    rw [hv.mpr rfl]
    dsimp only
    rw [if_neg (by decide)]
    exact ⟨some _, rfl⟩
  rintro δ ⟨o2, rfl⟩
  walk_at "d"
  exact k
theorem termJ_at {ts xs : List Rat} (h : ts.length = xs.length) (j : Nat) {i : Nat} (hi : i < xs.length) : (termJ ts xs j)[i]? = some (ts.getD i 0 * xs.getD i 0 ^ j) := by
  rw [termJ_eq h, List.getElem?_eq_getElem (by rw [List.length_zipWith]; omega), List.getElem_zipWith, getD_of (by omega), getD_of hi]
noncomputable def wEvenL : DW := fun ds Q _ => ∃ (ms : List Mk) (ps : List Rat) (bd L B l b : Nat), ds = [.list (ms.map mk3), .list (ps.map fr), .int (bd : Int)] ∧ bd ≤ 3 ∧ ms.length ≤ 14 ∧ TSz L B 2 1100 l b 1 4 4 ps (ms.map (·.1)) ∧ 2 * (l + b + 20) + 8 ≤ 2300 ∧ EvenBy ps (ms.map (·.1)) bd ∧ Q (.dat (.bool true))
theorem ok_law_even (T : Txt K mg A) : FnOk P w K mg base (CXE P w) 3 A.a_law_even A.d_law_even ["marks", "pulls", "bend"] (spW K wEvenL) := by
  have G_law_sum := ok_law_sum (P := P) (w := w) (base := base) T
  have G_law_times := ok_law_times (P := P) (w := w) (base := base) T
  refine okW T.F_law_even sc_law_even (fun ds Q E h => ?_) (fun cdv Ar outer s H E hr => ?_)
  · obtain ⟨_, _, _, _, _, _, _, rfl, _⟩ := h; rfl
  refine ⟨_, (pss_cons (ps_for PassesOwn.leaving rfl (pi_range1 rfl T.n_range (pa_cons (pe_op op_add (pv 2) pe_int) pa_nil)) (pg_name (i := 3) sc_law_even.nd rfl (Or.inl rfl))
        (pss_cons (ps_set (i := 4) sc_law_even.nd rfl (Or.inl rfl) (pe_tup (pa_cons pe_int (pa_cons pe_int pa_nil))))
      (pss_cons (ps_for PassesOwn.leaving rfl (pi_range1 rfl T.n_range (pa_cons (pe_callB (lenK (K := K) rfl) rfl T.n_len PySem.boot_len (pa_cons (pv 0) pa_nil)) pa_nil)) (pg_name (i := 5) sc_law_even.nd rfl (Or.inl rfl))
        (pss_cons (ps_set (i := 6) sc_law_even.nd rfl (Or.inl rfl) (pe_ix (ixlK (K := K) rfl) (pv 1) (pv 5) (fun _ _ => rfl)))
      (pss_cons (ps_for PassesOwn.leaving rfl (pi_range1 rfl T.n_range (pa_cons (pv 3) pa_nil)) (pg_name (i := 7) sc_law_even.nd rfl (Or.inl rfl))
        (pss_one (ps_set (i := 6) sc_law_even.nd rfl (Or.inl rfl) (pe_call G_law_times (hr.mono (by decide)) rfl T.m_law_times T.F_law_times.kp T.b_law_times .nil passE0 (pa_cons (pv 6) (pa_cons (pe_ix (ixtK (K := K) rfl) (pe_ix (ixlK (K := K) rfl) (pv 0) (pv 5) (fun _ _ => rfl)) pe_int (fun _ _ => rfl)) pa_nil))))))
      (pss_one (ps_set (i := 4) sc_law_even.nd rfl (Or.inl rfl) (pe_call G_law_sum (hr.mono (by decide)) rfl T.m_law_sum T.F_law_sum.kp T.b_law_sum .nil passE0 (pa_cons (pv 4) (pa_cons (pv 6) pa_nil))))))))
      (pss_one (ps_if (pt_cmpR (neK (K := K) rfl hr.units) (pv 4) (pe_tup (pa_cons pe_int (pa_cons pe_int pa_nil))) (nomark _)) (pss_one (ps_ret pe_bl)) pss_nil)))))
      (pss_one (ps_ret pe_bl))), _, (sv_seq (sv_for (is_rng1 (av_cons (bv_ev (ev_op ro_i0 (bv_var 2) (bv_ev ev_int))) av_nil)) (gv_name 3)
        (sv_seq (sv_asg (ev_tup (ae_cons ev_int (ae_cons ev_int ae_nil)) (by decide)) (gv_name 4))
      (sv_seq (sv_for (is_rng1 (av_cons (bv_ev (ev_cb rb_len (av_cons (bv_var 0) av_nil))) av_nil)) (gv_name 5)
        (sv_seq (sv_asg (ev_ixl (lv_var 1) (bv_var 5)) (gv_name 6))
      (sv_seq (sv_for (is_rng1 (av_cons (bv_var 3) av_nil)) (gv_name 7)
        (sv_asg (ev_call0 (av_cons (bv_var 6) (av_cons (bv_ev (ev_ixk 0 (ev_ixl (lv_var 0) (bv_var 5)))) av_nil))) (gv_name 6)))
      (sv_asg (ev_call0 (av_cons (bv_var 4) (av_cons (bv_var 6) av_nil))) (gv_name 4)))))
      (sv_if (tv_test (bv_ev (ev_op ro_neD (bv_var 4) (bv_ev (ev_tup (ae_cons ev_int (ae_cons ev_int ae_nil)) (by decide)))))) (sv_ret (bv_ev ev_bl)) sv_next))))
      (sv_ret (bv_ev ev_bl))), ?_⟩
  rintro ds Q X ⟨ms, ps, bd, L, B, l, b, rfl, b3, n14, z, fit, ev, k⟩
  have pl : ps.length = ms.length := by rw [z.len, List.length_map]
  have xl : (ms.map (·.1)).length = ms.length := List.length_map _
  obtain ⟨D, hD⟩ : ∃ D, l + b + 4 * (1 + 4) + 3 = D := ⟨_, rfl⟩
  have tdg : ∀ j, j ≤ 4 → ∀ q ∈ termJ ps (ms.map (·.1)) j, Dg D q := fun j hj q hq => by
    rw [← hD]
    exact z.dg hj (k := 1) (by decide) (by rw [Nat.one_mul]; exact z.term j q hq)
  have sdg : ∀ j, j ≤ 4 → ∀ i, Dg D (tot ((termJ ps (ms.map (·.1)) j).take i)) := fun j hj i => by
    rw [← hD]
    have h := Cm.tot (qs := (termJ ps (ms.map (·.1)) j).take i) fun q hq => z.term j q (List.mem_of_mem_take hq)
    refine z.dg hj ?_ h
    rw [List.length_take, termJ_len z.len, xl]
    omega
  have xdg : ∀ i, i < ms.length → Dg 6 (ms.getD i (0, 0, 0)).1 := fun i hi => by
    rw [getD_of hi]
    exact (z.x _ (List.mem_map.mpr ⟨_, List.getElem_mem hi, rfl⟩)).dg (by decide) (l := 1) (by decide) (b := 4) (by decide)
  have xat : ∀ i, i < ms.length → (ms.map (·.1)).getD i 0 = (ms.getD i (0, 0, 0)).1 := fun i hi => by
    rw [getD_of (by omega), List.getElem_map, getD_of hi]
  refine seq_mk (for_rng (lo := 0) (st := 1) (n := bd + 1) (fun Q h => by
      walk_at "d"
      refine ⟨⟨by omega, by omega⟩, ?_⟩
      rw [show ((bd : Int) + 1).toNat = bd + 1 by omega]; exact h)
    (fun i δ => ∃ o3 o4 o5 o6 o7 : Option PyData, δ = [some (.dat (.list (ms.map mk3))), some (.dat (.list (ps.map fr))), some (.dat (.int (bd : Int))), o3.map Sl.dat, o4.map Sl.dat, o5.map Sl.dat, o6.map Sl.dat, o7.map Sl.dat])
    ⟨none, none, none, none, none, rfl⟩ ?_ ?_)
  · rintro t δ ht ⟨o3, o4, o5, o6, o7, rfl⟩
    obtain ⟨tt, htt⟩ : ∃ tt : Int, (0 : Int) + (t : Int) * 1 = tt := ⟨_, rfl⟩
    rw [htt]
    have ht' : tt = (t : Int) := by omega
    walk_at "s"
    refine seq_mk (for_rng (lo := 0) (st := 1) (n := ms.length) (fun Q h => by
        walk_at "d"
        refine ⟨⟨by omega, by omega⟩, ?_⟩
        rw [Int.toNat_natCast]; exact h)
      (fun i δ => ∃ o5 o6 o7 : Option PyData, δ = [some (.dat (.list (ms.map mk3))), some (.dat (.list (ps.map fr))), some (.dat (.int (bd : Int))), some (.dat (.int tt)), some (.dat (fr (tot ((termJ ps (ms.map (·.1)) t).take i)))), o5.map Sl.dat, o6.map Sl.dat, o7.map Sl.dat])
      ⟨o5, o6, o7, rfl⟩ ?_ ?_)
    · rintro i δ hi ⟨o5, o6, o7, rfl⟩
      obtain ⟨kk, hk⟩ : ∃ kk : Int, (0 : Int) + (i : Int) * 1 = kk := ⟨_, rfl⟩
      rw [hk]
      have hk' : kk = (i : Int) := by omega
      have am : atI (ms.map mk3) kk = some (mk3 (ms.getD i (0, 0, 0))) := by
        rw [hk']
        exact atI_nat (by rw [List.getElem?_map, List.getElem?_eq_getElem hi, getD_of hi]; rfl)
      have ap := atI_rt (qs := ps) hk' (by omega)
      have ta : ∀ j, (termJ ps (ms.map (·.1)) j)[i]? = some (ps.getD i 0 * (ms.getD i (0, 0, 0)).1 ^ j) := fun j => by
        rw [termJ_at z.len j (by omega), xat i hi]
      have pd : ∀ j, j ≤ 4 → Dg D (ps.getD i 0 * (ms.getD i (0, 0, 0)).1 ^ j) := fun j hj => tdg j hj _ (List.mem_of_getElem? (ta j))
      have xd := xdg i hi
      rw [take_snoc (ta t), tot_snoc]
      obtain ⟨m, hm⟩ : ∃ m, ms.getD i (0, 0, 0) = m := ⟨_, rfl⟩
      obtain ⟨p, hp⟩ : ∃ p, ps.getD i 0 = p := ⟨_, rfl⟩
      rw [hm] at am pd xd ⊢
      rw [hp] at ap pd ⊢
      walk_at "s"
      refine ⟨_, ap, ?_⟩
      refine seq_mk (for_rng (lo := 0) (st := 1) (n := t) (fun Q h => by
          walk_at "d"
          refine ⟨⟨by omega, by omega⟩, ?_⟩
          rw [ht', Int.toNat_natCast]; exact h)
        (fun j δ => ∃ o7 : Option PyData, δ = [some (.dat (.list (ms.map mk3))), some (.dat (.list (ps.map fr))), some (.dat (.int (bd : Int))), some (.dat (.int tt)), some (.dat (fr (tot ((termJ ps (ms.map (·.1)) t).take i)))), some (.dat (.int kk)), some (.dat (fr (p * m.1 ^ j))), o7.map Sl.dat])
        ⟨o7, by rw [Rat.pow_zero, Rat.mul_one]⟩ ?_ ?_)
      · rintro j δ hj ⟨o7, rfl⟩
        walk_at "d"
        refine ⟨_, am, ?_⟩
        refine ⟨p * m.1 ^ j, m.1, D, 6, rfl, pd j (by omega), xd, by omega, ?_⟩
        walk_at "d"
        refine ⟨some (.int (0 + (j : Int) * 1)), ?_⟩
        rw [Rat.pow_succ, ← Rat.mul_assoc]
        rfl
      rintro δ ⟨o7, rfl⟩
      walk_at "d"
      refine ⟨_, _, D, D, rfl, sdg t (by omega) i, pd t (by omega), by omega, ?_⟩
      walk_at "d"
      exact ⟨some _, some _, o7, rfl⟩
    rintro δ ⟨o5, o6, o7, rfl⟩
    have e0 : tot ((termJ ps (ms.map (·.1)) t).take ms.length) = 0 := by
      rw [List.take_of_length_le (by rw [termJ_len z.len, xl]; exact Nat.le_refl _)]
      exact ev t (by omega)
    rw [e0]
    walk_at "d"
    refine ⟨Rat, eRat, 0, 0, rfl, rfl, fun v hv => ?_⟩
    rw [hv.mpr rfl]
    dsimp only
    rw [if_neg (by decide)]
    exact ⟨some _, some _, o5, o6, o7, rfl⟩
  rintro δ ⟨o3, o4, o5, o6, o7, rfl⟩
  walk_at "d"
  exact k
end
noncomputable def eT2 {α β : Type} (a : Enc α) (b : Enc β) (h : a.dep ≤ 50) (h' : b.dep ≤ 50) : Enc (α × β) where
  d := fun p => .tuple [a.d p.1, b.d p.2]
  dep := a.dep + b.dep + 1 - min a.dep b.dep
  small := by omega
  lay := fun p => by
    show ((a.d p.1).canLay0 && ((b.d p.2).canLay0 && true)) = true
    rw [a.lay, b.lay]; rfl
  depth := fun p => by
    have h1 := a.depth p.1
    have h2 := b.depth p.2
    simp only [PyData.depth, PyData.depthAll]
    omega
  eqv := fun p q => by
    show PyData.eqvAll [a.d p.1, b.d p.2] [a.d q.1, b.d q.2] = true ↔ p = q
    have h1 := a.eqv p.1 q.1
    have h2 := b.eqv p.2 q.2
    simp only [PyData.eqvAll, Bool.and_eq_true, h1, h2, and_true]
    exact ⟨fun ⟨x, y⟩ => Prod.ext x y, fun e => by rw [e]; exact ⟨rfl, rfl⟩⟩
theorem mmt_less (ms : List Mk) (f g : Mk → Rat) (i : Nat) : mmt ms (fun m => f m - g m) i = mmt ms f i - mmt ms g i := by
  unfold mmt
  induction ms with
  | nil => show (0 : Rat) = 0 - 0; grind
  | cons m ms ih =>
    simp only [List.map_cons, tot]
    rw [ih]
    grind
theorem bsq_even {ms : List Mk} {bd : Nat} {nu pl : List Rat} (B : BSq ms bd nu pl) : EvenBy pl (ms.map (·.1)) bd := fun j hj => by
  rw [B.pl, mom_mmt ms (fun m => m.2.1 - hgt nu m.1)]
  by_cases hn : ms.length ≤ bd + 1
  · have h := (B.tail hn).2
    unfold mmt
    have : (ms.map fun m => (m.2.2 : Rat) * (m.2.1 - hgt nu m.1) * m.1 ^ j) = ms.map fun _ => (0 : Rat) := List.map_congr_left fun m hm => by rw [h m hm]; grind
    rw [this, tot_nil]
  · rw [mmt_less, (B.sq (by omega)).2 j (by omega)]
    grind
theorem bsq_one {ms : List Mk} {bd : Nat} {nu pl nu2 pl2 : List Rat} (S : SW ms) (B : BSq ms bd nu pl) (B2 : BSq ms bd nu2 pl2) : nu2 = nu ∧ pl2 = pl := by
  have e : nu2 = nu := by
    by_cases hn : ms.length ≤ bd + 1
    · obtain ⟨⟨cs, cl, e1⟩, h1⟩ := B.tail hn
      obtain ⟨⟨cs2, cl2, e2⟩, h2⟩ := B2.tail hn
      rw [e1, e2]
      congr 1
      refine one_line (xs := ms.map (·.1)) (by rw [List.length_map]; exact cl2) (by rw [List.length_map]; exact cl) S.nd fun x hx => ?_
      obtain ⟨m, hm, rfl⟩ := List.mem_map.mp hx
      have a := h1 m hm
      have b := h2 m hm
      rw [e1, hgt_noughts] at a
      rw [e2, hgt_noughts] at b
      rw [a, b]
    · have s1 := B.sq (by omega)
      have s2 := B2.sq (by omega)
      exact mmt_one (n := bd + 1) (fun m hm => (S.w m hm).1) S.nd (by omega) s2.1 s1.1 fun i hi => by rw [s2.2 i hi, s1.2 i hi]
  exact ⟨e, by rw [B.pl, B2.pl, e]⟩
structure BZ (ms : List Mk) (nu pl : List Rat) (R : Nat) : Prop where
  R0 : 0 < R
  R1 : R ≤ 10 ^ 136
  nd : ∀ q ∈ nu, Dg 304 q
  h : ∀ m ∈ ms, Cm R (10 ^ 182) (hgt nu m.1)
  y : ∀ m ∈ ms, Cm R (10 ^ 182) m.2.1
  i : ∀ m ∈ ms, Cm R (10 ^ 183) (m.2.1 - hgt nu m.1)
  p : ∀ q ∈ pl, Cm R (10 ^ 193) q
theorem bsq_z {ms : List Mk} {bd : Nat} {nu pl : List Rat} (S : SW ms) (b3 : bd ≤ 3) (B : BSq ms bd nu pl) : ∃ R, BZ ms nu pl R := by
  obtain ⟨V, V0, V1, hV⟩ := B.cm
  have nl := B.len
  have h : ∀ m ∈ ms, Cm (V * 16) (10 ^ 182) (hgt nu m.1) := fun m hm => by
    have h1 := hgt_cm (S.x m hm) (by decide +kernel) hV
    refine h1.mono (Nat.mul_dvd_mul_left _ (Nat.pow_dvd_pow 2 (show nu.length ≤ 4 by omega))) ?_
    exact Nat.le_trans (Nat.mul_le_mul_left _ (Nat.pow_le_pow_right (by decide) (show nu.length ≤ 4 by omega))) (by decide +kernel)
  have y : ∀ m ∈ ms, Cm (V * 16) (10 ^ 182) m.2.1 := fun m hm => (S.h m hm).mono (Nat.dvd_trans (by decide) (Nat.dvd_mul_left 16 V)) (by decide +kernel)
  have i : ∀ m ∈ ms, Cm (V * 16) (10 ^ 183) (m.2.1 - hgt nu m.1) := fun m hm => ((y m hm).sub (h m hm)).mono (Nat.dvd_refl _) (by decide +kernel)
  refine ⟨V * 16, by omega, Nat.le_trans (Nat.mul_le_mul_right _ V1) (by decide +kernel), fun q hq => (hV q hq).dg V0 (l := 134) V1 (b := 169) (Nat.le_refl _), h, y, i, fun q hq => ?_⟩
  rw [B.pl] at hq
  obtain ⟨m, hm, rfl⟩ := List.mem_map.mp hq
  have h1 := (Cm.int (i := m.2.2) (B := 5 * 10 ^ 9) (by have := S.w m hm; omega)).mul (i m hm)
  rw [Nat.one_mul] at h1
  exact h1.mono (Nat.dvd_refl _) (by decide +kernel)
section
variable {P : Program} {w : World} {K : PySem.W.Frag} {mg : Str → Option Value} {base : Heap} {A : Adr}
theorem ok_law (T : Txt K mg A) : FnOk P w K mg base (CXE P w) 10 A.a_law A.d_law ["script"] (spLaw K) := by
  have G_law_cell_at := ok_law_cell_at (P := P) (w := w) (base := base) T
  have G_law_marks := ok_law_marks (P := P) (w := w) (base := base) T
  have G_law_is_fractions := ok_law_is_fractions (P := P) (w := w) (base := base) T
  have G_law_height := ok_law_height (P := P) (w := w) (base := base) T
  have G_law_sum := ok_law_sum (P := P) (w := w) (base := base) T
  have G_law_times := ok_law_times (P := P) (w := w) (base := base) T
  have G_law_even := ok_law_even (P := P) (w := w) (base := base) T
  have G_bend_shown := ok_bend_shown (P := P) (w := w) (base := base) T
  have G_bend_least := ok_bend_least (P := P) (w := w) (base := base) T
  refine law_of (okW T.F_law sc_law (fun ds Q E h => ?_) (fun cdv Ar outer s H E hr => ?_))
  · obtain ⟨a, rfl, _⟩ := h; rfl
  refine ⟨_, (pss_cons (ps_set (i := 1) sc_law.nd rfl (Or.inl rfl) (pe_op op_mod (pe_op op_fdivB (pe_call G_law_cell_at (hr.mono (by decide)) rfl T.m_law_cell_at T.F_law_cell_at.kp T.b_law_cell_at .nil passE0 (pa_cons (pv 0) (pa_cons pe_int pa_nil))) pe_int) pe_int))
      (pss_cons (ps_set (i := 2) sc_law.nd rfl (Or.inl rfl) (pe_call G_law_marks (hr.mono (by decide)) rfl T.m_law_marks T.F_law_marks.kp T.b_law_marks .nil passE0 (pa_cons (pv 0) pa_nil)))
      (pss_cons (ps_set (i := 3) sc_law.nd rfl (Or.inl rfl) (pe_callTy (listK (K := K) rfl) rfl T.n_list bt_list (pa_cons (pv 2) pa_nil)))
      (pss_cons (ps_set (i := 4) sc_law.nd rfl (Or.inl rfl) (pe_call G_bend_least (hr.mono (by decide)) rfl T.m_bend_least T.F_bend_least.kp T.b_bend_least .nil passE0 (pa_cons pe_str (pa_cons (pv 3) (pa_cons (pv 1) pa_nil)))))
      (pss_cons (ps_if (PW.pt (pw_or (pt_not (pt_val (pe_callB (isiDK (K := K) rfl) rfl T.n_isinstance bt_isinstance (pa_cons (pv 4) (pa_cons (pe_bltn rfl T.n_tuple bt_tuple (show RelV (.ty "tuple") (.type "tuple") from rfl)) pa_nil))))) (pw_or (pt_cmpR op_ne (pe_callB (lenK (K := K) rfl) rfl T.n_len PySem.boot_len (pa_cons (pv 4) pa_nil)) pe_int (nomark _)) (pw_or1 (pt_cmpR (neK (K := K) rfl hr.units) (pv 3) (pv 2) (nomark _)))))) (pss_one (ps_ret pe_bl)) pss_nil)
      (pss_cons (ps_asg (pv 4) (pgtK (K := K) (n := 2) rfl rfl (pgs_cons (pg_name (i := 5) sc_law.nd rfl (Or.inl rfl)) (pgs_cons (pg_name (i := 6) sc_law.nd rfl (Or.inl rfl)) pgs_nil))))
      (pss_cons (ps_if (PW.pt (pw_or (pt_not (pt_val (pe_call G_law_is_fractions (hr.mono (by decide)) rfl T.m_law_is_fractions T.F_law_is_fractions.kp T.b_law_is_fractions .nil passE0 (pa_cons (pv 5) (pa_cons (pe_op op_add (pv 1) pe_int) pa_nil))))) (pw_or1 (pt_not (pt_val (pe_call G_law_is_fractions (hr.mono (by decide)) rfl T.m_law_is_fractions T.F_law_is_fractions.kp T.b_law_is_fractions .nil passE0 (pa_cons (pv 6) (pa_cons (pe_callB (lenK (K := K) rfl) rfl T.n_len PySem.boot_len (pa_cons (pv 2) pa_nil)) pa_nil)))))))) (pss_one (ps_ret pe_bl)) pss_nil)
      (pss_cons (ps_for PassesOwn.leaving rfl (pi_range1 rfl T.n_range (pa_cons (pe_callB (lenK (K := K) rfl) rfl T.n_len PySem.boot_len (pa_cons (pv 2) pa_nil)) pa_nil)) (pg_name (i := 7) sc_law.nd rfl (Or.inl rfl))
        (pss_cons (ps_set (i := 8) sc_law.nd rfl (Or.inl rfl) (pe_call G_law_height (hr.mono (by decide)) rfl T.m_law_height T.F_law_height.kp T.b_law_height .nil passE0 (pa_cons (pv 5) (pa_cons (pe_ix (ixtK (K := K) rfl) (pe_ix (ixlK (K := K) rfl) (pv 2) (pv 7) (fun _ _ => rfl)) pe_int (fun _ _ => rfl)) pa_nil))))
      (pss_cons (ps_set (i := 9) sc_law.nd rfl (Or.inl rfl) (pe_call G_law_sum (hr.mono (by decide)) rfl T.m_law_sum T.F_law_sum.kp T.b_law_sum .nil passE0 (pa_cons (pe_ix (ixtK (K := K) rfl) (pe_ix (ixlK (K := K) rfl) (pv 2) (pv 7) (fun _ _ => rfl)) pe_int (fun _ _ => rfl)) (pa_cons (pe_tup (pa_cons (pe_un un_neg (pe_ix (ixtK (K := K) rfl) (pv 8) pe_int (fun _ _ => rfl))) (pa_cons (pe_ix (ixtK (K := K) rfl) (pv 8) pe_int (fun _ _ => rfl)) pa_nil))) pa_nil))))
      (pss_one (ps_if (pt_cmpR (neK (K := K) rfl hr.units) (pe_ix (ixlK (K := K) rfl) (pv 6) (pv 7) (fun _ _ => rfl)) (pe_call G_law_times (hr.mono (by decide)) rfl T.m_law_times T.F_law_times.kp T.b_law_times .nil passE0 (pa_cons (pe_tup (pa_cons (pe_ix (ixtK (K := K) rfl) (pe_ix (ixlK (K := K) rfl) (pv 2) (pv 7) (fun _ _ => rfl)) pe_int (fun _ _ => rfl)) (pa_cons pe_int pa_nil))) (pa_cons (pv 9) pa_nil))) (nomark _)) (pss_one (ps_ret pe_bl)) pss_nil)))))
      (pss_cons (ps_if (pt_cmpR op_notB (pe_call G_bend_shown (hr.mono (by decide)) rfl T.m_bend_shown T.F_bend_shown.kp T.b_bend_shown .nil passE0 (pa_cons pe_str (pa_cons (pv 3) (pa_cons (pe_callTy (listK (K := K) rfl) rfl T.n_list bt_list (pa_cons (pv 5) pa_nil)) (pa_cons (pe_callTy (listK (K := K) rfl) rfl T.n_list bt_list (pa_cons (pv 6) pa_nil)) pa_nil))))) pe_bl (nomark _)) (pss_one (ps_ret pe_bl)) pss_nil)
      (pss_cons (ps_if (pt_cmpR op_gt (pe_callB (lenK (K := K) rfl) rfl T.n_len PySem.boot_len (pa_cons (pv 2) pa_nil)) (pe_op op_add (pv 1) pe_int) (nomark _)) (pss_one (ps_set (i := 10) sc_law.nd rfl (Or.inl rfl) (pe_call G_law_even (hr.mono (by decide)) rfl T.m_law_even T.F_law_even.kp T.b_law_even .nil passE0 (pa_cons (pv 2) (pa_cons (pv 6) (pa_cons (pv 1) pa_nil)))))) (pss_one (ps_set (i := 10) sc_law.nd rfl (Or.inl rfl) (pe_cmpR (eqK (K := K) rfl hr.units) (pe_op op_cat (pe_slice (sllK (K := K) rfl) (pv 5) (po_some (pe_callB (lenK (K := K) rfl) rfl T.n_len PySem.boot_len (pa_cons (pv 2) pa_nil))) po_none) (pv 6)) (pe_op op_rep (pe_lst (pa_cons (pe_tup (pa_cons pe_int (pa_cons pe_int pa_nil))) pa_nil)) (pe_op op_add (pv 1) pe_int)) (nomark _)))))
      (pss_cons (ps_set (i := 11) sc_law.nd rfl (Or.inl rfl) (pe_tup (pa_cons (pe_callTy (listK (K := K) rfl) rfl T.n_list bt_list (pa_cons (pv 5) pa_nil)) (pa_cons (pe_callTy (listK (K := K) rfl) rfl T.n_list bt_list (pa_cons (pv 6) pa_nil)) pa_nil))))
      (pss_cons (ps_expr (pe_bm PySem.F.plainAttrs_list PySem.F.slot_list_append PySem.F.type_list_append mt_append (pv 5) (pa_cons (pe_tup (pa_cons pe_int (pa_cons pe_int pa_nil))) pa_nil)))
      (pss_cons (ps_expr (pe_bm0 PySem.F.plainAttrs_list PySem.F.slot_list_clear PySem.F.type_list_clear mt_clear (pv 6)))
      (pss_one (ps_ret (pe_and (pv 10) (pe_and (pe_cmpR (eqK (K := K) rfl hr.units) (pe_call G_bend_least (hr.mono (by decide)) rfl T.m_bend_least T.F_bend_least.kp T.b_bend_least .nil passE0 (pa_cons pe_str (pa_cons (pv 3) (pa_cons (pv 1) pa_nil)))) (pv 11) (nomark _)) (pe_one (pe_cmpR (eqK (K := K) rfl hr.units) (pv 3) (pv 2) (nomark _)))))))))))))))))))), _, (sv_seq (sv_asg (ev_mdk (k := 4) (by decide) (bv_ev (ev_dvk (k := 16) (cdiv (by decide +kernel)) (bv_ev (ev_call0 (av_cons (bv_var 0) (av_cons (bv_ev ev_int) av_nil)))) ev_int)) ev_int) (gv_name 1))
      (sv_seq (sv_setO 2 (ov_call0 (av_cons (bv_var 0) av_nil)))
      (sv_seq (sv_setO 3 (ov_list (lv_var 2)))
      (sv_pair 4 (av_cons (bv_ev ev_str) (av_cons (bv_var 3) (av_cons (bv_var 1) av_nil))) (fun a_ b_ a0_ b0_ =>
      (sv_seq (sv_if (tv_or (tv_not (tv_b (bv_ev (ev_isi (by decide) (bv_ev (ev_fz 4)))))) (tv_or (tv_test (bv_ev (ev_op ro_ne (bv_ev (ev_cb rb_len (av_cons (bv_ev (ev_fz 4)) av_nil))) (bv_ev ev_int)))) (tv_test (bv_ev (ev_op ro_neD (bv_var 3) (bv_var 2)))))) (sv_ret (bv_ev ev_bl)) sv_next)
      (sv_seq (sv_unp 4 5 6)
      (sv_seq (sv_if (tv_or (tv_not (tv_b (bv_ev (ev_call0 (av_cons (bv_ev (ev_fz 5)) (av_cons (bv_ev (ev_op ro_i0 (bv_var 1) (bv_ev ev_int))) av_nil)))))) (tv_not (tv_b (bv_ev (ev_call0 (av_cons (bv_ev (ev_fz 6)) (av_cons (bv_ev (ev_cb rb_len (av_cons (bv_var 2) av_nil))) av_nil))))))) (sv_ret (bv_ev ev_bl)) sv_next)
      (sv_seq (sv_frzL 3 4 (sv_frzL 2 4 (sv_for (is_rng1 (av_cons (bv_ev (ev_cb rb_len (av_cons (bv_ev (ev_fz 2)) av_nil))) av_nil)) (gv_name 7)
        (sv_seq (sv_asg (ev_call0 (av_cons (bv_ev (ev_fz 5)) (av_cons (bv_ev (ev_ixk 0 (ev_ixl (lv_ev (ev_fz 2)) (bv_var 7)))) av_nil))) (gv_name 8))
      (sv_seq (sv_asg (ev_call0 (av_cons (bv_ev (ev_ixk 1 (ev_ixl (lv_ev (ev_fz 2)) (bv_var 7)))) (av_cons (bv_ev (ev_tup (ae_cons (ev_neg (bv_ev (ev_ixk 0 (ev_var 8)))) (ae_cons (ev_ixk 1 (ev_var 8)) ae_nil)) (by decide))) av_nil))) (gv_name 9))
      (sv_if (tv_test (bv_ev (ev_op ro_neD (bv_ev (ev_ixl (lv_ev (ev_fz 6)) (bv_var 7))) (bv_ev (ev_call0 (av_cons (bv_ev (ev_tup (ae_cons (ev_ixk 2 (ev_ixl (lv_ev (ev_fz 2)) (bv_var 7))) (ae_cons ev_int ae_nil)) (by decide))) (av_cons (bv_var 9) av_nil))))))) (sv_ret (bv_ev ev_bl)) sv_next))))))
      (sv_seq (sv_if (tv_test (bv_ev (ev_op ro_notB (bv_ev (ev_call0 (av_cons (bv_ev ev_str) (av_cons (bv_ev (ev_fz 3)) (av_cons (bv_ev (ev_ov (ov_list (lv_ev (ev_fz 5))))) (av_cons (bv_ev (ev_ov (ov_list (lv_ev (ev_fz 6))))) av_nil)))))) (bv_ev ev_bl)))) (sv_ret (bv_ev ev_bl)) sv_next)
      (sv_cut (sv_if (tv_test (bv_ev (ev_op ro_b0 (bv_ev (ev_cb rb_len (av_cons (bv_ev (ev_fz 2)) av_nil))) (bv_ev (ev_op ro_i0 (bv_var 1) (bv_ev ev_int)))))) (sv_asg (ev_call0 (av_cons (bv_ev (ev_fz 2)) (av_cons (bv_ev (ev_fz 6)) (av_cons (bv_var 1) av_nil)))) (gv_name 10)) (sv_asg (ev_op ro_eqD (bv_ev (ev_ov (ov_cat (mv_ov (ov_sl (lv_ev (ev_fz 5)) (op_part (bv_ev (ev_cb rb_len (av_cons (bv_ev (ev_fz 2)) av_nil)))) op_no)) (mv_fz 6)))) (bv_ev (ev_ov (ov_rep (mv_ov (ov_lst (ae_cons (ev_tup (ae_cons ev_int (ae_cons ev_int ae_nil)) (by decide)) ae_nil) (by decide))) (bv_ev (ev_op ro_i0 (bv_var 1) (bv_ev ev_int))))))) (gv_name 10)))
      (sv_thaw2 4 5 6 11 [false, true, true, true, false, false, false, false, false, false, true, false] (by decide) (by decide) a0_ b0_ (o2_nn (ov_list (lv_ev (ev_fz 5))) (ov_list (lv_ev (ev_fz 6)))) (ev_tup (ae_cons ev_int (ae_cons ev_int ae_nil)) (by decide))
      (sv_ret (bv_ev (ev_and (bv_var 10) (ev_and (bv_ev (ev_op ro_eqD (bv_call0 (av_cons (bv_ev ev_str) (av_cons (bv_ev (ev_fz 3)) (av_cons (bv_var 1) av_nil)))) (bv_var 11))) (ev_op ro_eqD (bv_ev (ev_fz 3)) (bv_ev (ev_fz 2))))))))))))))))))), ?_⟩
  rintro ds Q X ⟨ns, rfl, hlen, hbits, k⟩
  walk_at "s"
  refine ⟨ns, 0, rfl, by decide, ?_⟩
  walk_at "d"
  obtain ⟨b, hb, b3⟩ : ∃ b : Nat, cellZ ns 0 / 16 % 4 = (b : Int) ∧ b ≤ 3 := ⟨(cellZ ns 0 / 16 % 4).toNat, by omega, by omega⟩
  rw [hb]
  walk_at "s"
  refine ⟨ns, rfl, hlen, hbits, fun p ms n1 n14 hM => ?_⟩
  walk_at "d"
  refine ⟨mks_flat _, ?_⟩
  have S := hM.sw n14
  walk_at "s"
  refine ⟨ms, b, rfl, b3, n1, S, fun nu pl B => ?_⟩
  walk_at "d"
  obtain ⟨R, Zb⟩ := bsq_z S b3 B
  have nl := B.len
  have pll : pl.length = ms.length := by rw [B.pl, List.length_map]
  have pdg : ∀ q ∈ pl, Dg 330 q := fun q hq => (Zb.p q hq).dg Zb.R0 (l := 136) Zb.R1 (b := 193) (Nat.le_refl _)
  have xd : ∀ m ∈ ms, Dg 6 m.1 := fun m hm => (S.x m hm).dg (by decide) (l := 1) (by decide) (b := 4) (by decide)
  refine ⟨frs_flat _, frs_flat _, fun a1 a2 => ?_⟩
  walk_at "s"
  rw [if_neg (by decide), if_neg (by decide)]
  refine ⟨_, eList eMark (by decide), ms, ms, rfl, rfl, fun v hv => ?_⟩
  rw [hv.mpr rfl]
  clear hv v
  dsimp only
  rw [if_neg (by decide)]
  walk_at "s"
  walk_at "s"
  refine ⟨nu, b + 1, by rw [show ((b + 1 : Nat) : Int) = (b : Int) + 1 by omega], nl, by omega, fun q hq => dgOk (Zb.nd q hq) (by decide), ?_⟩
  walk_at "d"
  refine ⟨pl, ms.length, rfl, pll, by omega, fun q hq => dgOk (pdg q hq) (by decide), ?_⟩
  walk_at "d"
  refine seq_mk ?_
  walk_at "d"
  intro h0 ha hb' s0 sa sb
  refine for_rng (lo := 0) (st := 1) (n := ms.length) (fun Q h => by
      walk_at "d"
      refine ⟨⟨by omega, by omega⟩, ?_⟩
      rw [Int.toNat_natCast]; exact h)
    (fun i δ => ∃ o7 o8 o9 : Option PyData, δ = [some (.dat (.list (ns.map .int))), some (.dat (.int (b : Int))), some (.fz [s0] (.list (ms.map mk3))), some (.fz [h0] (.list (ms.map mk3))), some (.fz [a1, a2] (.tuple [.list (nu.map fr), .list (pl.map fr)])), some (.fz [a1] (.list (nu.map fr))), some (.fz [a2] (.list (pl.map fr))), o7.map Sl.dat, o8.map Sl.dat, o9.map Sl.dat, none, none])
    ⟨none, none, none, rfl⟩ ?_ ?_
  · rintro i δ hi ⟨o7, o8, o9, rfl⟩
    obtain ⟨kk, hk⟩ : ∃ kk : Int, (0 : Int) + (i : Int) * 1 = kk := ⟨_, rfl⟩
    rw [hk]
    have hk' : kk = (i : Int) := by omega
    have mi : ms.getD i (0, 0, 0) ∈ ms := by rw [getD_of hi]; exact List.getElem_mem _
    have am : atI (ms.map mk3) kk = some (mk3 (ms.getD i (0, 0, 0))) := by
      rw [hk']
      exact atI_nat (by rw [List.getElem?_map, List.getElem?_eq_getElem hi, getD_of hi]; rfl)
    have ap := atI_rt (qs := pl) hk' (by omega)
    have ep : pl.getD i 0 = ((ms.getD i (0, 0, 0)).2.2 : Rat) * ((ms.getD i (0, 0, 0)).2.1 - hgt nu (ms.getD i (0, 0, 0)).1) := by
      rw [getD_of (by omega), getD_of hi]
      have e := B.pl
      subst e
      rw [List.getElem_map]
    obtain ⟨m, hm⟩ : ∃ m, ms.getD i (0, 0, 0) = m := ⟨_, rfl⟩
    rw [hm] at mi am ep
    have dh : Dg 319 (hgt nu m.1) := (Zb.h m mi).dg Zb.R0 (l := 136) Zb.R1 (b := 182) (Nat.le_refl _)
    have dy : Dg 13 m.2.1 := (S.h m mi).dg (by decide) (l := 1) (by decide) (b := 11) (Nat.le_refl _)
    have di : Dg 320 (m.2.1 - hgt nu m.1) := (Zb.i m mi).dg Zb.R0 (l := 136) Zb.R1 (b := 183) (Nat.le_refl _)
    have dw : Dg 10 (m.2.2 : Rat) := Dg.int (by have := S.w m mi; omega)
    walk_at "s"
    refine ⟨_, am, ?_⟩
    refine ⟨nu, m.1, 304, 6, rfl, by omega, Zb.nd, xd m mi, by decide, ?_⟩
    walk_at "d"
    walk_at "s"
    refine ⟨_, am, ?_⟩
    refine ⟨m.2.1, -hgt nu m.1, 13, 319, rfl, dy, dh.neg, by decide, ?_⟩
    dsimp only
    rw [show m.2.1 + -hgt nu m.1 = m.2.1 - hgt nu m.1 by grind]
    generalize m.2.1 - hgt nu m.1 = x at di ep ⊢
    walk_at "d"
    refine ⟨_, ap, _, am, ?_⟩
    refine ⟨(m.2.2 : Rat), x, 10, 320, rfl, dw, di, by decide, ?_⟩
    walk_at "d"
    refine ⟨_, eRat, pl.getD i 0, (m.2.2 : Rat) * x, rfl, rfl, fun v hv => ?_⟩
    rw [hv.mpr ep]
    dsimp only
    rw [if_neg (by decide)]
    exact ⟨some _, some _, some _, rfl⟩
  rintro δ ⟨o7, o8, o9, rfl⟩
  have hne : ms ≠ [] := List.length_pos_iff.mp n1
  have mz : MSz R (10 ^ 182) (5 * 10 ^ 9) 136 182 10 ms (rowR nu ms) := ⟨by omega, Zb.R0, Zb.R1, Nat.le_refl _, by decide, Zb.y, fun q hq => by
    obtain ⟨m, hm, rfl⟩ := List.mem_map.mp hq
    exact Zb.h m hm, fun m hm => by have := S.w m hm; omega, by decide⟩
  have pz : PSz R (10 ^ 193) 136 193 pl := ⟨by omega, Zb.R0, Zb.R1, Nat.le_refl _, Zb.p, by decide⟩
  have tzn : ∀ n, n ≤ 4 → TSz R (10 ^ 193) 2 1100 136 193 1 4 n pl (ms.map (·.1)) := fun n hn => ⟨by rw [List.length_map]; exact pll, by rw [List.length_map]; omega, Zb.R0, by decide, Zb.R1, Nat.le_refl _, by decide, by decide, Zb.p, fun x hx => by
    obtain ⟨m, hm, rfl⟩ := List.mem_map.mp hx
    exact S.x m hm, by omega⟩
  have ev := bsq_even B
  walk_at "s"
  refine ⟨.str "square", ms, nu, pl, R, 10 ^ 182, 5 * 10 ^ 9, 136, 182, 10, R, 10 ^ 193, 136, 193, 2, 1100, 1, 4, 304, 6, rfl, mz, pz, tzn _ (by omega), hne, pll, by omega, by omega, Zb.nd, xd, by decide, (fun kd e => by cases e; decide +kernel), fun kd e hk v hv => ?_, fun h => absurd (show ("square" : Str) ∈ kdsL by simp [kdsL]) (h _ rfl)⟩
  cases e
  have ev' : v = true := hv.mpr ⟨by
    unfold Fair
    rw [if_neg (by decide), if_neg (by decide), wmiss_map, B.pl], by rw [show nu.length - 1 = b by omega]; exact ev⟩
  subst ev'
  walk_at "d"
  refine cut_mk (fun δ => δ = [some (.dat (.list (ns.map .int))), some (.dat (.int (b : Int))), some (.fz [s0] (.list (ms.map mk3))), some (.fz [h0] (.list (ms.map mk3))), some (.fz [a1, a2] (.tuple [.list (nu.map fr), .list (pl.map fr)])), some (.fz [a1] (.list (nu.map fr))), some (.fz [a2] (.list (pl.map fr))), o7.map Sl.dat, o8.map Sl.dat, o9.map Sl.dat, some (.dat (.bool true)), none]) ?_ ?_
  · walk_at "d"
    refine ite2 (fun c => ?_) (fun c => ?_)
    · refine ⟨ms, pl, b, R, 10 ^ 193, 136, 193, rfl, b3, n14, tzn 4 (Nat.le_refl _), by decide, ev, ?_⟩
      walk_at "d"
      try trivial
    · have hn : ms.length ≤ b + 1 := by omega
      obtain ⟨⟨cs, cl, ec⟩, ht⟩ := B.tail hn
      have ez : nu.drop ms.length ++ pl = List.replicate (b + 1) 0 := by
        have e1 : nu.drop ms.length = List.replicate (b + 1 - ms.length) 0 := by rw [ec, ← cl, List.drop_left]
        have e2 : pl = List.replicate ms.length 0 := by
          rw [B.pl]
          refine List.ext_getElem (by simp) fun i h1 h2 => ?_
          have hi : i < ms.length := by simpa using h1
          rw [List.getElem_replicate, List.getElem_map, ht _ (List.getElem_mem hi)]
          grind
        rw [e1, e2, List.replicate_append_replicate]
        congr 1
        omega
      have ed : cutL (nu.map fr) (some (ms.length : Int)) none ++ pl.map fr = (nu.drop ms.length ++ pl).map fr := by rw [cutL_lo, List.map_append, List.map_drop]
      have l1 : (cutL (nu.map fr) (some (ms.length : Int)) none).length ≤ 4 := by rw [cutL_lo, List.length_drop, List.length_map]; omega
      rw [show ((b : Int) + 1).toNat = b + 1 by omega, rep_fr, ed]
      refine ⟨by omega, ⟨by omega, by omega⟩, by omega, ?_⟩
      refine ⟨_, eList eRat (by decide), nu.drop ms.length ++ pl, List.replicate (b + 1) 0, rfl, rfl, fun v hv => ?_⟩
      rw [hv.mpr ez]
  rintro δ rfl
  walk_at "d"
  refine ⟨by omega, frs_flat _, frs_flat _, ⟨sa, sb, mks_flat _, ha, hb', mks_flat _⟩, ?_⟩
  refine ⟨ms, b, rfl, b3, n1, S, fun nu2 pl2 B2 => ?_⟩
  obtain ⟨e1, e2⟩ := bsq_one S B B2
  subst e1 e2
  walk_at "d"
  refine ⟨List Rat × List Rat, eT2 (eList eRat (by decide)) (eList eRat (by decide)) (by decide) (by decide), (nu2, pl2), (nu2, pl2), rfl, rfl, fun v hv' => ?_⟩
  rw [hv'.mpr rfl]
  clear hv' v
  dsimp only
  rw [if_pos rfl]
  refine ⟨_, eList eMark (by decide), ms, ms, rfl, rfl, fun v hv' => ?_⟩
  rw [hv'.mpr rfl]
  exact k
end
theorem all_mk {l : PySem.W.OpenLaw} {w : World} {K : PySem.W.Frag} {h : Heap} {mg : Str → Option Value} {fa f_common_divisor f_fraction f_plus f_minus f_product f_quotient f_is_less f_size_of f_total_of f_greatest_of f_solved f_cleared f_leading_spot f_without f_height_at f_row_of f_powers_of f_bent_through f_moments_of f_is_even f_misses_of f_check_kind f_weighed_misses f_is_fair f_is_fair_far f_has_sign_of f_is_fair_sum f_bend_least f_is_bend f_through_all f_bend_square f_bend_far f_spread_spots f_even_shares f_with_sign_of f_moved_by f_pulls_at f_exchanged f_bend_shown f_law_cell_at f_law_low f_law_sum f_law_times f_law_height f_law_marks f_law_is_fractions f_law_even f_law x_NoNumber x_NoKind x_NoBend x_NoAnswer g_KINDS g_NOUGHT : Addr} (X : K.In h) (G : h.Ns mainGlobals mg) (hfa : mg "law" = some (.ref fa))
    {od0 an0 : Option Addr} {sl0 : Array (Option Value)} {oc0 kV0 dc0 pm0 cd0 ct0 : Value}
    {od1 an1 : Option Addr} {sl1 : Array (Option Value)} {oc1 kV1 dc1 pm1 cd1 ct1 : Value}
    {od2 an2 : Option Addr} {sl2 : Array (Option Value)} {oc2 kV2 dc2 pm2 cd2 ct2 : Value}
    {od3 an3 : Option Addr} {sl3 : Array (Option Value)} {oc3 kV3 dc3 pm3 cd3 ct3 : Value}
    {od4 an4 : Option Addr} {sl4 : Array (Option Value)} {oc4 kV4 dc4 pm4 cd4 ct4 : Value}
    {od5 an5 : Option Addr} {sl5 : Array (Option Value)} {oc5 kV5 dc5 pm5 cd5 ct5 : Value}
    {od6 an6 : Option Addr} {sl6 : Array (Option Value)} {oc6 kV6 dc6 pm6 cd6 ct6 : Value}
    {od7 an7 : Option Addr} {sl7 : Array (Option Value)} {oc7 kV7 dc7 pm7 cd7 ct7 : Value}
    {od8 an8 : Option Addr} {sl8 : Array (Option Value)} {oc8 kV8 dc8 pm8 cd8 ct8 : Value}
    {od9 an9 : Option Addr} {sl9 : Array (Option Value)} {oc9 kV9 dc9 pm9 cd9 ct9 : Value}
    {od10 an10 : Option Addr} {sl10 : Array (Option Value)} {oc10 kV10 dc10 pm10 cd10 ct10 : Value}
    {od11 an11 : Option Addr} {sl11 : Array (Option Value)} {oc11 kV11 dc11 pm11 cd11 ct11 : Value}
    {od12 an12 : Option Addr} {sl12 : Array (Option Value)} {oc12 kV12 dc12 pm12 cd12 ct12 : Value}
    {od13 an13 : Option Addr} {sl13 : Array (Option Value)} {oc13 kV13 dc13 pm13 cd13 ct13 : Value}
    {od14 an14 : Option Addr} {sl14 : Array (Option Value)} {oc14 kV14 dc14 pm14 cd14 ct14 : Value}
    {od15 an15 : Option Addr} {sl15 : Array (Option Value)} {oc15 kV15 dc15 pm15 cd15 ct15 : Value}
    {od16 an16 : Option Addr} {sl16 : Array (Option Value)} {oc16 kV16 dc16 pm16 cd16 ct16 : Value}
    {od17 an17 : Option Addr} {sl17 : Array (Option Value)} {oc17 kV17 dc17 pm17 cd17 ct17 : Value}
    {od18 an18 : Option Addr} {sl18 : Array (Option Value)} {oc18 kV18 dc18 pm18 cd18 ct18 : Value}
    {od19 an19 : Option Addr} {sl19 : Array (Option Value)} {oc19 kV19 dc19 pm19 cd19 ct19 : Value}
    {od20 an20 : Option Addr} {sl20 : Array (Option Value)} {oc20 kV20 dc20 pm20 cd20 ct20 : Value}
    {od21 an21 : Option Addr} {sl21 : Array (Option Value)} {oc21 kV21 dc21 pm21 cd21 ct21 : Value}
    {od22 an22 : Option Addr} {sl22 : Array (Option Value)} {oc22 kV22 dc22 pm22 cd22 ct22 : Value}
    {od23 an23 : Option Addr} {sl23 : Array (Option Value)} {oc23 kV23 dc23 pm23 cd23 ct23 : Value}
    {od24 an24 : Option Addr} {sl24 : Array (Option Value)} {oc24 kV24 dc24 pm24 cd24 ct24 : Value}
    {od25 an25 : Option Addr} {sl25 : Array (Option Value)} {oc25 kV25 dc25 pm25 cd25 ct25 : Value}
    {od26 an26 : Option Addr} {sl26 : Array (Option Value)} {oc26 kV26 dc26 pm26 cd26 ct26 : Value}
    {od27 an27 : Option Addr} {sl27 : Array (Option Value)} {oc27 kV27 dc27 pm27 cd27 ct27 : Value}
    {od28 an28 : Option Addr} {sl28 : Array (Option Value)} {oc28 kV28 dc28 pm28 cd28 ct28 : Value}
    {od29 an29 : Option Addr} {sl29 : Array (Option Value)} {oc29 kV29 dc29 pm29 cd29 ct29 : Value}
    {od30 an30 : Option Addr} {sl30 : Array (Option Value)} {oc30 kV30 dc30 pm30 cd30 ct30 : Value}
    {od31 an31 : Option Addr} {sl31 : Array (Option Value)} {oc31 kV31 dc31 pm31 cd31 ct31 : Value}
    {od32 an32 : Option Addr} {sl32 : Array (Option Value)} {oc32 kV32 dc32 pm32 cd32 ct32 : Value}
    {od33 an33 : Option Addr} {sl33 : Array (Option Value)} {oc33 kV33 dc33 pm33 cd33 ct33 : Value}
    {od34 an34 : Option Addr} {sl34 : Array (Option Value)} {oc34 kV34 dc34 pm34 cd34 ct34 : Value}
    {od35 an35 : Option Addr} {sl35 : Array (Option Value)} {oc35 kV35 dc35 pm35 cd35 ct35 : Value}
    {od36 an36 : Option Addr} {sl36 : Array (Option Value)} {oc36 kV36 dc36 pm36 cd36 ct36 : Value}
    {od37 an37 : Option Addr} {sl37 : Array (Option Value)} {oc37 kV37 dc37 pm37 cd37 ct37 : Value}
    {od38 an38 : Option Addr} {sl38 : Array (Option Value)} {oc38 kV38 dc38 pm38 cd38 ct38 : Value}
    {od39 an39 : Option Addr} {sl39 : Array (Option Value)} {oc39 kV39 dc39 pm39 cd39 ct39 : Value}
    {od40 an40 : Option Addr} {sl40 : Array (Option Value)} {oc40 kV40 dc40 pm40 cd40 ct40 : Value}
    {od41 an41 : Option Addr} {sl41 : Array (Option Value)} {oc41 kV41 dc41 pm41 cd41 ct41 : Value}
    {od42 an42 : Option Addr} {sl42 : Array (Option Value)} {oc42 kV42 dc42 pm42 cd42 ct42 : Value}
    {od43 an43 : Option Addr} {sl43 : Array (Option Value)} {oc43 kV43 dc43 pm43 cd43 ct43 : Value}
    {od44 an44 : Option Addr} {sl44 : Array (Option Value)} {oc44 kV44 dc44 pm44 cd44 ct44 : Value}
    {od45 an45 : Option Addr} {sl45 : Array (Option Value)} {oc45 kV45 dc45 pm45 cd45 ct45 : Value}
    {od46 an46 : Option Addr} {sl46 : Array (Option Value)} {oc46 kV46 dc46 pm46 cd46 ct46 : Value}
    {od47 an47 : Option Addr} {sl47 : Array (Option Value)} {oc47 kV47 dc47 pm47 cd47 ct47 : Value}
    (a0 : PySem.W.nsIn K mainGlobals "common_divisor" = some (some (.ref f_common_divisor))) (l0 : K.lookup f_common_divisor = some ⟨oc0, od0, .func (PySem.W.fnOf "common_divisor" "common_divisor" (defArgs s_common_divisor) (defBody s_common_divisor) (defScope s_common_divisor) .none kV0 dc0 pm0 an0 cd0 ct0), sl0⟩) (c0 : PySem.W.codeIn K cd0 "common_divisor" = true) (k0 : PySem.W.keepIn K (.ref f_common_divisor) = true)
    (a1 : PySem.W.nsIn K mainGlobals "fraction" = some (some (.ref f_fraction))) (l1 : K.lookup f_fraction = some ⟨oc1, od1, .func (PySem.W.fnOf "fraction" "fraction" (defArgs s_fraction) (defBody s_fraction) (defScope s_fraction) .none kV1 dc1 pm1 an1 cd1 ct1), sl1⟩) (c1 : PySem.W.codeIn K cd1 "fraction" = true) (k1 : PySem.W.keepIn K (.ref f_fraction) = true)
    (a2 : PySem.W.nsIn K mainGlobals "plus" = some (some (.ref f_plus))) (l2 : K.lookup f_plus = some ⟨oc2, od2, .func (PySem.W.fnOf "plus" "plus" (defArgs s_plus) (defBody s_plus) (defScope s_plus) .none kV2 dc2 pm2 an2 cd2 ct2), sl2⟩) (c2 : PySem.W.codeIn K cd2 "plus" = true) (k2 : PySem.W.keepIn K (.ref f_plus) = true)
    (a3 : PySem.W.nsIn K mainGlobals "minus" = some (some (.ref f_minus))) (l3 : K.lookup f_minus = some ⟨oc3, od3, .func (PySem.W.fnOf "minus" "minus" (defArgs s_minus) (defBody s_minus) (defScope s_minus) .none kV3 dc3 pm3 an3 cd3 ct3), sl3⟩) (c3 : PySem.W.codeIn K cd3 "minus" = true) (k3 : PySem.W.keepIn K (.ref f_minus) = true)
    (a4 : PySem.W.nsIn K mainGlobals "product" = some (some (.ref f_product))) (l4 : K.lookup f_product = some ⟨oc4, od4, .func (PySem.W.fnOf "product" "product" (defArgs s_product) (defBody s_product) (defScope s_product) .none kV4 dc4 pm4 an4 cd4 ct4), sl4⟩) (c4 : PySem.W.codeIn K cd4 "product" = true) (k4 : PySem.W.keepIn K (.ref f_product) = true)
    (a5 : PySem.W.nsIn K mainGlobals "quotient" = some (some (.ref f_quotient))) (l5 : K.lookup f_quotient = some ⟨oc5, od5, .func (PySem.W.fnOf "quotient" "quotient" (defArgs s_quotient) (defBody s_quotient) (defScope s_quotient) .none kV5 dc5 pm5 an5 cd5 ct5), sl5⟩) (c5 : PySem.W.codeIn K cd5 "quotient" = true) (k5 : PySem.W.keepIn K (.ref f_quotient) = true)
    (a6 : PySem.W.nsIn K mainGlobals "is_less" = some (some (.ref f_is_less))) (l6 : K.lookup f_is_less = some ⟨oc6, od6, .func (PySem.W.fnOf "is_less" "is_less" (defArgs s_is_less) (defBody s_is_less) (defScope s_is_less) .none kV6 dc6 pm6 an6 cd6 ct6), sl6⟩) (c6 : PySem.W.codeIn K cd6 "is_less" = true) (k6 : PySem.W.keepIn K (.ref f_is_less) = true)
    (a7 : PySem.W.nsIn K mainGlobals "size_of" = some (some (.ref f_size_of))) (l7 : K.lookup f_size_of = some ⟨oc7, od7, .func (PySem.W.fnOf "size_of" "size_of" (defArgs s_size_of) (defBody s_size_of) (defScope s_size_of) .none kV7 dc7 pm7 an7 cd7 ct7), sl7⟩) (c7 : PySem.W.codeIn K cd7 "size_of" = true) (k7 : PySem.W.keepIn K (.ref f_size_of) = true)
    (a8 : PySem.W.nsIn K mainGlobals "total_of" = some (some (.ref f_total_of))) (l8 : K.lookup f_total_of = some ⟨oc8, od8, .func (PySem.W.fnOf "total_of" "total_of" (defArgs s_total_of) (defBody s_total_of) (defScope s_total_of) .none kV8 dc8 pm8 an8 cd8 ct8), sl8⟩) (c8 : PySem.W.codeIn K cd8 "total_of" = true) (k8 : PySem.W.keepIn K (.ref f_total_of) = true)
    (a9 : PySem.W.nsIn K mainGlobals "greatest_of" = some (some (.ref f_greatest_of))) (l9 : K.lookup f_greatest_of = some ⟨oc9, od9, .func (PySem.W.fnOf "greatest_of" "greatest_of" (defArgs s_greatest_of) (defBody s_greatest_of) (defScope s_greatest_of) .none kV9 dc9 pm9 an9 cd9 ct9), sl9⟩) (c9 : PySem.W.codeIn K cd9 "greatest_of" = true) (k9 : PySem.W.keepIn K (.ref f_greatest_of) = true)
    (a10 : PySem.W.nsIn K mainGlobals "solved" = some (some (.ref f_solved))) (l10 : K.lookup f_solved = some ⟨oc10, od10, .func (PySem.W.fnOf "solved" "solved" (defArgs s_solved) (defBody s_solved) (defScope s_solved) .none kV10 dc10 pm10 an10 cd10 ct10), sl10⟩) (c10 : PySem.W.codeIn K cd10 "solved" = true) (k10 : PySem.W.keepIn K (.ref f_solved) = true)
    (a11 : PySem.W.nsIn K mainGlobals "cleared" = some (some (.ref f_cleared))) (l11 : K.lookup f_cleared = some ⟨oc11, od11, .func (PySem.W.fnOf "cleared" "cleared" (defArgs s_cleared) (defBody s_cleared) (defScope s_cleared) .none kV11 dc11 pm11 an11 cd11 ct11), sl11⟩) (c11 : PySem.W.codeIn K cd11 "cleared" = true) (k11 : PySem.W.keepIn K (.ref f_cleared) = true)
    (a12 : PySem.W.nsIn K mainGlobals "leading_spot" = some (some (.ref f_leading_spot))) (l12 : K.lookup f_leading_spot = some ⟨oc12, od12, .func (PySem.W.fnOf "leading_spot" "leading_spot" (defArgs s_leading_spot) (defBody s_leading_spot) (defScope s_leading_spot) .none kV12 dc12 pm12 an12 cd12 ct12), sl12⟩) (c12 : PySem.W.codeIn K cd12 "leading_spot" = true) (k12 : PySem.W.keepIn K (.ref f_leading_spot) = true)
    (a13 : PySem.W.nsIn K mainGlobals "without" = some (some (.ref f_without))) (l13 : K.lookup f_without = some ⟨oc13, od13, .func (PySem.W.fnOf "without" "without" (defArgs s_without) (defBody s_without) (defScope s_without) .none kV13 dc13 pm13 an13 cd13 ct13), sl13⟩) (c13 : PySem.W.codeIn K cd13 "without" = true) (k13 : PySem.W.keepIn K (.ref f_without) = true)
    (a14 : PySem.W.nsIn K mainGlobals "height_at" = some (some (.ref f_height_at))) (l14 : K.lookup f_height_at = some ⟨oc14, od14, .func (PySem.W.fnOf "height_at" "height_at" (defArgs s_height_at) (defBody s_height_at) (defScope s_height_at) .none kV14 dc14 pm14 an14 cd14 ct14), sl14⟩) (c14 : PySem.W.codeIn K cd14 "height_at" = true) (k14 : PySem.W.keepIn K (.ref f_height_at) = true)
    (a15 : PySem.W.nsIn K mainGlobals "row_of" = some (some (.ref f_row_of))) (l15 : K.lookup f_row_of = some ⟨oc15, od15, .func (PySem.W.fnOf "row_of" "row_of" (defArgs s_row_of) (defBody s_row_of) (defScope s_row_of) .none kV15 dc15 pm15 an15 cd15 ct15), sl15⟩) (c15 : PySem.W.codeIn K cd15 "row_of" = true) (k15 : PySem.W.keepIn K (.ref f_row_of) = true)
    (a16 : PySem.W.nsIn K mainGlobals "powers_of" = some (some (.ref f_powers_of))) (l16 : K.lookup f_powers_of = some ⟨oc16, od16, .func (PySem.W.fnOf "powers_of" "powers_of" (defArgs s_powers_of) (defBody s_powers_of) (defScope s_powers_of) .none kV16 dc16 pm16 an16 cd16 ct16), sl16⟩) (c16 : PySem.W.codeIn K cd16 "powers_of" = true) (k16 : PySem.W.keepIn K (.ref f_powers_of) = true)
    (a17 : PySem.W.nsIn K mainGlobals "bent_through" = some (some (.ref f_bent_through))) (l17 : K.lookup f_bent_through = some ⟨oc17, od17, .func (PySem.W.fnOf "bent_through" "bent_through" (defArgs s_bent_through) (defBody s_bent_through) (defScope s_bent_through) .none kV17 dc17 pm17 an17 cd17 ct17), sl17⟩) (c17 : PySem.W.codeIn K cd17 "bent_through" = true) (k17 : PySem.W.keepIn K (.ref f_bent_through) = true)
    (a18 : PySem.W.nsIn K mainGlobals "moments_of" = some (some (.ref f_moments_of))) (l18 : K.lookup f_moments_of = some ⟨oc18, od18, .func (PySem.W.fnOf "moments_of" "moments_of" (defArgs s_moments_of) (defBody s_moments_of) (defScope s_moments_of) .none kV18 dc18 pm18 an18 cd18 ct18), sl18⟩) (c18 : PySem.W.codeIn K cd18 "moments_of" = true) (k18 : PySem.W.keepIn K (.ref f_moments_of) = true)
    (a19 : PySem.W.nsIn K mainGlobals "is_even" = some (some (.ref f_is_even))) (l19 : K.lookup f_is_even = some ⟨oc19, od19, .func (PySem.W.fnOf "is_even" "is_even" (defArgs s_is_even) (defBody s_is_even) (defScope s_is_even) .none kV19 dc19 pm19 an19 cd19 ct19), sl19⟩) (c19 : PySem.W.codeIn K cd19 "is_even" = true) (k19 : PySem.W.keepIn K (.ref f_is_even) = true)
    (a20 : PySem.W.nsIn K mainGlobals "misses_of" = some (some (.ref f_misses_of))) (l20 : K.lookup f_misses_of = some ⟨oc20, od20, .func (PySem.W.fnOf "misses_of" "misses_of" (defArgs s_misses_of) (defBody s_misses_of) (defScope s_misses_of) .none kV20 dc20 pm20 an20 cd20 ct20), sl20⟩) (c20 : PySem.W.codeIn K cd20 "misses_of" = true) (k20 : PySem.W.keepIn K (.ref f_misses_of) = true)
    (a21 : PySem.W.nsIn K mainGlobals "check_kind" = some (some (.ref f_check_kind))) (l21 : K.lookup f_check_kind = some ⟨oc21, od21, .func (PySem.W.fnOf "check_kind" "check_kind" (defArgs s_check_kind) (defBody s_check_kind) (defScope s_check_kind) .none kV21 dc21 pm21 an21 cd21 ct21), sl21⟩) (c21 : PySem.W.codeIn K cd21 "check_kind" = true) (k21 : PySem.W.keepIn K (.ref f_check_kind) = true)
    (a22 : PySem.W.nsIn K mainGlobals "weighed_misses" = some (some (.ref f_weighed_misses))) (l22 : K.lookup f_weighed_misses = some ⟨oc22, od22, .func (PySem.W.fnOf "weighed_misses" "weighed_misses" (defArgs s_weighed_misses) (defBody s_weighed_misses) (defScope s_weighed_misses) .none kV22 dc22 pm22 an22 cd22 ct22), sl22⟩) (c22 : PySem.W.codeIn K cd22 "weighed_misses" = true) (k22 : PySem.W.keepIn K (.ref f_weighed_misses) = true)
    (a23 : PySem.W.nsIn K mainGlobals "is_fair" = some (some (.ref f_is_fair))) (l23 : K.lookup f_is_fair = some ⟨oc23, od23, .func (PySem.W.fnOf "is_fair" "is_fair" (defArgs s_is_fair) (defBody s_is_fair) (defScope s_is_fair) .none kV23 dc23 pm23 an23 cd23 ct23), sl23⟩) (c23 : PySem.W.codeIn K cd23 "is_fair" = true) (k23 : PySem.W.keepIn K (.ref f_is_fair) = true)
    (a24 : PySem.W.nsIn K mainGlobals "is_fair_far" = some (some (.ref f_is_fair_far))) (l24 : K.lookup f_is_fair_far = some ⟨oc24, od24, .func (PySem.W.fnOf "is_fair_far" "is_fair_far" (defArgs s_is_fair_far) (defBody s_is_fair_far) (defScope s_is_fair_far) .none kV24 dc24 pm24 an24 cd24 ct24), sl24⟩) (c24 : PySem.W.codeIn K cd24 "is_fair_far" = true) (k24 : PySem.W.keepIn K (.ref f_is_fair_far) = true)
    (a25 : PySem.W.nsIn K mainGlobals "has_sign_of" = some (some (.ref f_has_sign_of))) (l25 : K.lookup f_has_sign_of = some ⟨oc25, od25, .func (PySem.W.fnOf "has_sign_of" "has_sign_of" (defArgs s_has_sign_of) (defBody s_has_sign_of) (defScope s_has_sign_of) .none kV25 dc25 pm25 an25 cd25 ct25), sl25⟩) (c25 : PySem.W.codeIn K cd25 "has_sign_of" = true) (k25 : PySem.W.keepIn K (.ref f_has_sign_of) = true)
    (a26 : PySem.W.nsIn K mainGlobals "is_fair_sum" = some (some (.ref f_is_fair_sum))) (l26 : K.lookup f_is_fair_sum = some ⟨oc26, od26, .func (PySem.W.fnOf "is_fair_sum" "is_fair_sum" (defArgs s_is_fair_sum) (defBody s_is_fair_sum) (defScope s_is_fair_sum) .none kV26 dc26 pm26 an26 cd26 ct26), sl26⟩) (c26 : PySem.W.codeIn K cd26 "is_fair_sum" = true) (k26 : PySem.W.keepIn K (.ref f_is_fair_sum) = true)
    (a27 : PySem.W.nsIn K mainGlobals "bend_least" = some (some (.ref f_bend_least))) (l27 : K.lookup f_bend_least = some ⟨oc27, od27, .func (PySem.W.fnOf "bend_least" "bend_least" (defArgs s_bend_least) (defBody s_bend_least) (defScope s_bend_least) .none kV27 dc27 pm27 an27 cd27 ct27), sl27⟩) (c27 : PySem.W.codeIn K cd27 "bend_least" = true) (k27 : PySem.W.keepIn K (.ref f_bend_least) = true)
    (a28 : PySem.W.nsIn K mainGlobals "is_bend" = some (some (.ref f_is_bend))) (l28 : K.lookup f_is_bend = some ⟨oc28, od28, .func (PySem.W.fnOf "is_bend" "is_bend" (defArgs s_is_bend) (defBody s_is_bend) (defScope s_is_bend) .none kV28 dc28 pm28 an28 cd28 ct28), sl28⟩) (c28 : PySem.W.codeIn K cd28 "is_bend" = true) (k28 : PySem.W.keepIn K (.ref f_is_bend) = true)
    (a29 : PySem.W.nsIn K mainGlobals "through_all" = some (some (.ref f_through_all))) (l29 : K.lookup f_through_all = some ⟨oc29, od29, .func (PySem.W.fnOf "through_all" "through_all" (defArgs s_through_all) (defBody s_through_all) (defScope s_through_all) .none kV29 dc29 pm29 an29 cd29 ct29), sl29⟩) (c29 : PySem.W.codeIn K cd29 "through_all" = true) (k29 : PySem.W.keepIn K (.ref f_through_all) = true)
    (a30 : PySem.W.nsIn K mainGlobals "bend_square" = some (some (.ref f_bend_square))) (l30 : K.lookup f_bend_square = some ⟨oc30, od30, .func (PySem.W.fnOf "bend_square" "bend_square" (defArgs s_bend_square) (defBody s_bend_square) (defScope s_bend_square) .none kV30 dc30 pm30 an30 cd30 ct30), sl30⟩) (c30 : PySem.W.codeIn K cd30 "bend_square" = true) (k30 : PySem.W.keepIn K (.ref f_bend_square) = true)
    (a31 : PySem.W.nsIn K mainGlobals "bend_far" = some (some (.ref f_bend_far))) (l31 : K.lookup f_bend_far = some ⟨oc31, od31, .func (PySem.W.fnOf "bend_far" "bend_far" (defArgs s_bend_far) (defBody s_bend_far) (defScope s_bend_far) .none kV31 dc31 pm31 an31 cd31 ct31), sl31⟩) (c31 : PySem.W.codeIn K cd31 "bend_far" = true) (k31 : PySem.W.keepIn K (.ref f_bend_far) = true)
    (a32 : PySem.W.nsIn K mainGlobals "spread_spots" = some (some (.ref f_spread_spots))) (l32 : K.lookup f_spread_spots = some ⟨oc32, od32, .func (PySem.W.fnOf "spread_spots" "spread_spots" (defArgs s_spread_spots) (defBody s_spread_spots) (defScope s_spread_spots) .none kV32 dc32 pm32 an32 cd32 ct32), sl32⟩) (c32 : PySem.W.codeIn K cd32 "spread_spots" = true) (k32 : PySem.W.keepIn K (.ref f_spread_spots) = true)
    (a33 : PySem.W.nsIn K mainGlobals "even_shares" = some (some (.ref f_even_shares))) (l33 : K.lookup f_even_shares = some ⟨oc33, od33, .func (PySem.W.fnOf "even_shares" "even_shares" (defArgs s_even_shares) (defBody s_even_shares) (defScope s_even_shares) .none kV33 dc33 pm33 an33 cd33 ct33), sl33⟩) (c33 : PySem.W.codeIn K cd33 "even_shares" = true) (k33 : PySem.W.keepIn K (.ref f_even_shares) = true)
    (a34 : PySem.W.nsIn K mainGlobals "with_sign_of" = some (some (.ref f_with_sign_of))) (l34 : K.lookup f_with_sign_of = some ⟨oc34, od34, .func (PySem.W.fnOf "with_sign_of" "with_sign_of" (defArgs s_with_sign_of) (defBody s_with_sign_of) (defScope s_with_sign_of) .none kV34 dc34 pm34 an34 cd34 ct34), sl34⟩) (c34 : PySem.W.codeIn K cd34 "with_sign_of" = true) (k34 : PySem.W.keepIn K (.ref f_with_sign_of) = true)
    (a35 : PySem.W.nsIn K mainGlobals "moved_by" = some (some (.ref f_moved_by))) (l35 : K.lookup f_moved_by = some ⟨oc35, od35, .func (PySem.W.fnOf "moved_by" "moved_by" (defArgs s_moved_by) (defBody s_moved_by) (defScope s_moved_by) .none kV35 dc35 pm35 an35 cd35 ct35), sl35⟩) (c35 : PySem.W.codeIn K cd35 "moved_by" = true) (k35 : PySem.W.keepIn K (.ref f_moved_by) = true)
    (a36 : PySem.W.nsIn K mainGlobals "pulls_at" = some (some (.ref f_pulls_at))) (l36 : K.lookup f_pulls_at = some ⟨oc36, od36, .func (PySem.W.fnOf "pulls_at" "pulls_at" (defArgs s_pulls_at) (defBody s_pulls_at) (defScope s_pulls_at) .none kV36 dc36 pm36 an36 cd36 ct36), sl36⟩) (c36 : PySem.W.codeIn K cd36 "pulls_at" = true) (k36 : PySem.W.keepIn K (.ref f_pulls_at) = true)
    (a37 : PySem.W.nsIn K mainGlobals "exchanged" = some (some (.ref f_exchanged))) (l37 : K.lookup f_exchanged = some ⟨oc37, od37, .func (PySem.W.fnOf "exchanged" "exchanged" (defArgs s_exchanged) (defBody s_exchanged) (defScope s_exchanged) .none kV37 dc37 pm37 an37 cd37 ct37), sl37⟩) (c37 : PySem.W.codeIn K cd37 "exchanged" = true) (k37 : PySem.W.keepIn K (.ref f_exchanged) = true)
    (a38 : PySem.W.nsIn K mainGlobals "bend_shown" = some (some (.ref f_bend_shown))) (l38 : K.lookup f_bend_shown = some ⟨oc38, od38, .func (PySem.W.fnOf "bend_shown" "bend_shown" (defArgs s_bend_shown) (defBody s_bend_shown) (defScope s_bend_shown) .none kV38 dc38 pm38 an38 cd38 ct38), sl38⟩) (c38 : PySem.W.codeIn K cd38 "bend_shown" = true) (k38 : PySem.W.keepIn K (.ref f_bend_shown) = true)
    (a39 : PySem.W.nsIn K mainGlobals "_law_cell_at" = some (some (.ref f_law_cell_at))) (l39 : K.lookup f_law_cell_at = some ⟨oc39, od39, .func (PySem.W.fnOf "_law_cell_at" "_law_cell_at" (defArgs s_law_cell_at) (defBody s_law_cell_at) (defScope s_law_cell_at) .none kV39 dc39 pm39 an39 cd39 ct39), sl39⟩) (c39 : PySem.W.codeIn K cd39 "_law_cell_at" = true) (k39 : PySem.W.keepIn K (.ref f_law_cell_at) = true)
    (a40 : PySem.W.nsIn K mainGlobals "_law_low" = some (some (.ref f_law_low))) (l40 : K.lookup f_law_low = some ⟨oc40, od40, .func (PySem.W.fnOf "_law_low" "_law_low" (defArgs s_law_low) (defBody s_law_low) (defScope s_law_low) .none kV40 dc40 pm40 an40 cd40 ct40), sl40⟩) (c40 : PySem.W.codeIn K cd40 "_law_low" = true) (k40 : PySem.W.keepIn K (.ref f_law_low) = true)
    (a41 : PySem.W.nsIn K mainGlobals "_law_sum" = some (some (.ref f_law_sum))) (l41 : K.lookup f_law_sum = some ⟨oc41, od41, .func (PySem.W.fnOf "_law_sum" "_law_sum" (defArgs s_law_sum) (defBody s_law_sum) (defScope s_law_sum) .none kV41 dc41 pm41 an41 cd41 ct41), sl41⟩) (c41 : PySem.W.codeIn K cd41 "_law_sum" = true) (k41 : PySem.W.keepIn K (.ref f_law_sum) = true)
    (a42 : PySem.W.nsIn K mainGlobals "_law_times" = some (some (.ref f_law_times))) (l42 : K.lookup f_law_times = some ⟨oc42, od42, .func (PySem.W.fnOf "_law_times" "_law_times" (defArgs s_law_times) (defBody s_law_times) (defScope s_law_times) .none kV42 dc42 pm42 an42 cd42 ct42), sl42⟩) (c42 : PySem.W.codeIn K cd42 "_law_times" = true) (k42 : PySem.W.keepIn K (.ref f_law_times) = true)
    (a43 : PySem.W.nsIn K mainGlobals "_law_height" = some (some (.ref f_law_height))) (l43 : K.lookup f_law_height = some ⟨oc43, od43, .func (PySem.W.fnOf "_law_height" "_law_height" (defArgs s_law_height) (defBody s_law_height) (defScope s_law_height) .none kV43 dc43 pm43 an43 cd43 ct43), sl43⟩) (c43 : PySem.W.codeIn K cd43 "_law_height" = true) (k43 : PySem.W.keepIn K (.ref f_law_height) = true)
    (a44 : PySem.W.nsIn K mainGlobals "_law_marks" = some (some (.ref f_law_marks))) (l44 : K.lookup f_law_marks = some ⟨oc44, od44, .func (PySem.W.fnOf "_law_marks" "_law_marks" (defArgs s_law_marks) (defBody s_law_marks) (defScope s_law_marks) .none kV44 dc44 pm44 an44 cd44 ct44), sl44⟩) (c44 : PySem.W.codeIn K cd44 "_law_marks" = true) (k44 : PySem.W.keepIn K (.ref f_law_marks) = true)
    (a45 : PySem.W.nsIn K mainGlobals "_law_is_fractions" = some (some (.ref f_law_is_fractions))) (l45 : K.lookup f_law_is_fractions = some ⟨oc45, od45, .func (PySem.W.fnOf "_law_is_fractions" "_law_is_fractions" (defArgs s_law_is_fractions) (defBody s_law_is_fractions) (defScope s_law_is_fractions) .none kV45 dc45 pm45 an45 cd45 ct45), sl45⟩) (c45 : PySem.W.codeIn K cd45 "_law_is_fractions" = true) (k45 : PySem.W.keepIn K (.ref f_law_is_fractions) = true)
    (a46 : PySem.W.nsIn K mainGlobals "_law_even" = some (some (.ref f_law_even))) (l46 : K.lookup f_law_even = some ⟨oc46, od46, .func (PySem.W.fnOf "_law_even" "_law_even" (defArgs s_law_even) (defBody s_law_even) (defScope s_law_even) .none kV46 dc46 pm46 an46 cd46 ct46), sl46⟩) (c46 : PySem.W.codeIn K cd46 "_law_even" = true) (k46 : PySem.W.keepIn K (.ref f_law_even) = true)
    (a47 : PySem.W.nsIn K mainGlobals "law" = some (some (.ref f_law))) (l47 : K.lookup f_law = some ⟨oc47, od47, .func (PySem.W.fnOf "law" "law" (defArgs s_law) (defBody s_law) (defScope s_law) .none kV47 dc47 pm47 an47 cd47 ct47), sl47⟩) (c47 : PySem.W.codeIn K cd47 "law" = true) (k47 : PySem.W.keepIn K (.ref f_law) = true)
    (ax_NoNumber : PySem.W.nsIn K mainGlobals "NoNumber" = some (some (.ref x_NoNumber))) (xx_NoNumber : PySem.W.excIn K x_NoNumber [.type "ValueError", .type "Exception", .type "BaseException", .type "object"] "ValueError.__new__" = true)
    (ax_NoKind : PySem.W.nsIn K mainGlobals "NoKind" = some (some (.ref x_NoKind))) (xx_NoKind : PySem.W.excIn K x_NoKind [.type "ValueError", .type "Exception", .type "BaseException", .type "object"] "ValueError.__new__" = true)
    (ax_NoBend : PySem.W.nsIn K mainGlobals "NoBend" = some (some (.ref x_NoBend))) (xx_NoBend : PySem.W.excIn K x_NoBend [.type "ValueError", .type "Exception", .type "BaseException", .type "object"] "ValueError.__new__" = true)
    (ax_NoAnswer : PySem.W.nsIn K mainGlobals "NoAnswer" = some (some (.ref x_NoAnswer))) (xx_NoAnswer : PySem.W.excIn K x_NoAnswer [.type "ValueError", .type "Exception", .type "BaseException", .type "object"] "ValueError.__new__" = true)
    (z_abs : PySem.W.nsIn K mainGlobals "abs" = some none)
    (z_all : PySem.W.nsIn K mainGlobals "all" = some none)
    (z_bool : PySem.W.nsIn K mainGlobals "bool" = some none)
    (z_height : PySem.W.nsIn K mainGlobals "height" = some none)
    (z_int : PySem.W.nsIn K mainGlobals "int" = some none)
    (z_isinstance : PySem.W.nsIn K mainGlobals "isinstance" = some none)
    (z_led : PySem.W.nsIn K mainGlobals "led" = some none)
    (z_len : PySem.W.nsIn K mainGlobals "len" = some none)
    (z_list : PySem.W.nsIn K mainGlobals "list" = some none)
    (z_mark : PySem.W.nsIn K mainGlobals "mark" = some none)
    (z_max : PySem.W.nsIn K mainGlobals "max" = some none)
    (z_min : PySem.W.nsIn K mainGlobals "min" = some none)
    (z_miss : PySem.W.nsIn K mainGlobals "miss" = some none)
    (z_moment : PySem.W.nsIn K mainGlobals "moment" = some none)
    (z_one : PySem.W.nsIn K mainGlobals "one" = some none)
    (z_power : PySem.W.nsIn K mainGlobals "power" = some none)
    (z_pull : PySem.W.nsIn K mainGlobals "pull" = some none)
    (z_range : PySem.W.nsIn K mainGlobals "range" = some none)
    (z_reversed : PySem.W.nsIn K mainGlobals "reversed" = some none)
    (z_row : PySem.W.nsIn K mainGlobals "row" = some none)
    (z_share : PySem.W.nsIn K mainGlobals "share" = some none)
    (z_spot : PySem.W.nsIn K mainGlobals "spot" = some none)
    (z_str : PySem.W.nsIn K mainGlobals "str" = some none)
    (z_term : PySem.W.nsIn K mainGlobals "term" = some none)
    (z_tuple : PySem.W.nsIn K mainGlobals "tuple" = some none)
    (z_value : PySem.W.nsIn K mainGlobals "value" = some none)
    (z_weight : PySem.W.nsIn K mainGlobals "weight" = some none)
    (z_zip : PySem.W.nsIn K mainGlobals "zip" = some none)
    {tk0_KINDS tk1_KINDS tk2_KINDS : Tok} {od_KINDS : Option Addr} {n_KINDS : Nat} {sl_KINDS : Array (Option Value)} (zc_KINDS : PySem.W.nsIn K mainGlobals "KINDS" = some (some (.ref g_KINDS)))
    (lk_KINDS : K.lookup g_KINDS = some ⟨.type "tuple", od_KINDS, .seq #[(.str "far" tk0_KINDS), (.str "sum" tk1_KINDS), (.str "square" tk2_KINDS)] n_KINDS, sl_KINDS⟩)
    {tk_MOST_BEND : Tok} (zc_MOST_BEND : PySem.W.nsIn K mainGlobals "MOST_BEND" = some (some (.int 3 tk_MOST_BEND)))
    {tk_MOST_NUMBERS : Tok} (zc_MOST_NUMBERS : PySem.W.nsIn K mainGlobals "MOST_NUMBERS" = some (some (.int 4 tk_MOST_NUMBERS)))
    {tk0_NOUGHT tk1_NOUGHT : Tok} {od_NOUGHT : Option Addr} {n_NOUGHT : Nat} {sl_NOUGHT : Array (Option Value)} (zc_NOUGHT : PySem.W.nsIn K mainGlobals "NOUGHT" = some (some (.ref g_NOUGHT)))
    (lk_NOUGHT : K.lookup g_NOUGHT = some ⟨.type "tuple", od_NOUGHT, .seq #[(.int 0 tk0_NOUGHT), (.int 1 tk1_NOUGHT)] n_NOUGHT, sl_NOUGHT⟩)
    : ∃ fd : FuncData, (∀ (s : Shared) (v : Value), BindsTo s fd ⟨[v], []⟩ [("script", v)]) ∧ ∀ base : Heap, K.In base → base.Ns mainGlobals mg → FnOk l.prog w K mg base (CXE l.prog w) 10 fa fd ["script"] (spLaw K) := by
  have e := hfa.symm.trans (PySem.W.mg_of X G a47)
  cases e
  have F0 := fun_mk (st := s_common_divisor) l0 c0 k0
  have b0 := F0.binds (ps := ["one", "other"]) fun _ _ _ _ _ _ us hl => match us, hl with | [_, _], _ => rfl
  have F1 := fun_mk (st := s_fraction) l1 c1 k1
  have b1 := F1.binds (ps := ["top", "bottom"]) fun _ _ _ _ _ _ us hl => match us, hl with | [_, _], _ => rfl
  have F2 := fun_mk (st := s_plus) l2 c2 k2
  have b2 := F2.binds (ps := ["one", "other"]) fun _ _ _ _ _ _ us hl => match us, hl with | [_, _], _ => rfl
  have F3 := fun_mk (st := s_minus) l3 c3 k3
  have b3 := F3.binds (ps := ["one", "other"]) fun _ _ _ _ _ _ us hl => match us, hl with | [_, _], _ => rfl
  have F4 := fun_mk (st := s_product) l4 c4 k4
  have b4 := F4.binds (ps := ["one", "other"]) fun _ _ _ _ _ _ us hl => match us, hl with | [_, _], _ => rfl
  have F5 := fun_mk (st := s_quotient) l5 c5 k5
  have b5 := F5.binds (ps := ["one", "other"]) fun _ _ _ _ _ _ us hl => match us, hl with | [_, _], _ => rfl
  have F6 := fun_mk (st := s_is_less) l6 c6 k6
  have b6 := F6.binds (ps := ["one", "other"]) fun _ _ _ _ _ _ us hl => match us, hl with | [_, _], _ => rfl
  have F7 := fun_mk (st := s_size_of) l7 c7 k7
  have b7 := F7.binds (ps := ["one"]) fun _ _ _ _ _ _ us hl => match us, hl with | [_], _ => rfl
  have F8 := fun_mk (st := s_total_of) l8 c8 k8
  have b8 := F8.binds (ps := ["some"]) fun _ _ _ _ _ _ us hl => match us, hl with | [_], _ => rfl
  have F9 := fun_mk (st := s_greatest_of) l9 c9 k9
  have b9 := F9.binds (ps := ["some"]) fun _ _ _ _ _ _ us hl => match us, hl with | [_], _ => rfl
  have F10 := fun_mk (st := s_solved) l10 c10 k10
  have b10 := F10.binds (ps := ["table", "right"]) fun _ _ _ _ _ _ us hl => match us, hl with | [_, _], _ => rfl
  have F11 := fun_mk (st := s_cleared) l11 c11 k11
  have b11 := F11.binds (ps := ["rows", "column"]) fun _ _ _ _ _ _ us hl => match us, hl with | [_, _], _ => rfl
  have F12 := fun_mk (st := s_leading_spot) l12 c12 k12
  have b12 := F12.binds (ps := ["rows", "column"]) fun _ _ _ _ _ _ us hl => match us, hl with | [_, _], _ => rfl
  have F13 := fun_mk (st := s_without) l13 c13 k13
  have b13 := F13.binds (ps := ["row", "leader", "column"]) fun _ _ _ _ _ _ us hl => match us, hl with | [_, _, _], _ => rfl
  have F14 := fun_mk (st := s_height_at) l14 c14 k14
  have b14 := F14.binds (ps := ["numbers", "x"]) fun _ _ _ _ _ _ us hl => match us, hl with | [_, _], _ => rfl
  have F15 := fun_mk (st := s_row_of) l15 c15 k15
  have b15 := F15.binds (ps := ["numbers", "marks"]) fun _ _ _ _ _ _ us hl => match us, hl with | [_, _], _ => rfl
  have F16 := fun_mk (st := s_powers_of) l16 c16 k16
  have b16 := F16.binds (ps := ["x", "count"]) fun _ _ _ _ _ _ us hl => match us, hl with | [_, _], _ => rfl
  have F17 := fun_mk (st := s_bent_through) l17 c17 k17
  have b17 := F17.binds (ps := ["marks"]) fun _ _ _ _ _ _ us hl => match us, hl with | [_], _ => rfl
  have F18 := fun_mk (st := s_moments_of) l18 c18 k18
  have b18 := F18.binds (ps := ["marks", "terms", "count"]) fun _ _ _ _ _ _ us hl => match us, hl with | [_, _, _], _ => rfl
  have F19 := fun_mk (st := s_is_even) l19 c19 k19
  have b19 := F19.binds (ps := ["marks", "pulls", "bend"]) fun _ _ _ _ _ _ us hl => match us, hl with | [_, _, _], _ => rfl
  have F20 := fun_mk (st := s_misses_of) l20 c20 k20
  have b20 := F20.binds (ps := ["marks", "row"]) fun _ _ _ _ _ _ us hl => match us, hl with | [_, _], _ => rfl
  have F21 := fun_mk (st := s_check_kind) l21 c21 k21
  have b21 := F21.binds (ps := ["kind"]) fun _ _ _ _ _ _ us hl => match us, hl with | [_], _ => rfl
  have F22 := fun_mk (st := s_weighed_misses) l22 c22 k22
  have b22 := F22.binds (ps := ["marks", "row"]) fun _ _ _ _ _ _ us hl => match us, hl with | [_, _], _ => rfl
  have F23 := fun_mk (st := s_is_fair) l23 c23 k23
  have b23 := F23.binds (ps := ["kind", "marks", "row", "pulls"]) fun _ _ _ _ _ _ us hl => match us, hl with | [_, _, _, _], _ => rfl
  have F24 := fun_mk (st := s_is_fair_far) l24 c24 k24
  have b24 := F24.binds (ps := ["misses", "pulls"]) fun _ _ _ _ _ _ us hl => match us, hl with | [_, _], _ => rfl
  have F25 := fun_mk (st := s_has_sign_of) l25 c25 k25
  have b25 := F25.binds (ps := ["miss", "pull"]) fun _ _ _ _ _ _ us hl => match us, hl with | [_, _], _ => rfl
  have F26 := fun_mk (st := s_is_fair_sum) l26 c26 k26
  have b26 := F26.binds (ps := ["marks", "misses", "pulls"]) fun _ _ _ _ _ _ us hl => match us, hl with | [_, _, _], _ => rfl
  have F27 := fun_mk (st := s_bend_least) l27 c27 k27
  have b27 := F27.binds (ps := ["kind", "marks", "bend"]) fun _ _ _ _ _ _ us hl => match us, hl with | [_, _, _], _ => rfl
  have F28 := fun_mk (st := s_is_bend) l28 c28 k28
  have b28 := F28.binds (ps := ["bend"]) fun _ _ _ _ _ _ us hl => match us, hl with | [_], _ => rfl
  have F29 := fun_mk (st := s_through_all) l29 c29 k29
  have b29 := F29.binds (ps := ["marks", "bend"]) fun _ _ _ _ _ _ us hl => match us, hl with | [_, _], _ => rfl
  have F30 := fun_mk (st := s_bend_square) l30 c30 k30
  have b30 := F30.binds (ps := ["marks", "bend"]) fun _ _ _ _ _ _ us hl => match us, hl with | [_, _], _ => rfl
  have F31 := fun_mk (st := s_bend_far) l31 c31 k31
  have b31 := F31.binds (ps := ["marks", "bend"]) fun _ _ _ _ _ _ us hl => match us, hl with | [_, _], _ => rfl
  have F32 := fun_mk (st := s_spread_spots) l32 c32 k32
  have b32 := F32.binds (ps := ["count", "wanted"]) fun _ _ _ _ _ _ us hl => match us, hl with | [_, _], _ => rfl
  have F33 := fun_mk (st := s_even_shares) l33 c33 k33
  have b33 := F33.binds (ps := ["chosen"]) fun _ _ _ _ _ _ us hl => match us, hl with | [_], _ => rfl
  have F34 := fun_mk (st := s_with_sign_of) l34 c34 k34
  have b34 := F34.binds (ps := ["one", "other"]) fun _ _ _ _ _ _ us hl => match us, hl with | [_, _], _ => rfl
  have F35 := fun_mk (st := s_moved_by) l35 c35 k35
  have b35 := F35.binds (ps := ["chosen", "shares", "level"]) fun _ _ _ _ _ _ us hl => match us, hl with | [_, _, _], _ => rfl
  have F36 := fun_mk (st := s_pulls_at) l36 c36 k36
  have b36 := F36.binds (ps := ["spots", "shares", "level", "count"]) fun _ _ _ _ _ _ us hl => match us, hl with | [_, _, _, _], _ => rfl
  have F37 := fun_mk (st := s_exchanged) l37 c37 k37
  have b37 := F37.binds (ps := ["spots", "misses", "spot"]) fun _ _ _ _ _ _ us hl => match us, hl with | [_, _, _], _ => rfl
  have F38 := fun_mk (st := s_bend_shown) l38 c38 k38
  have b38 := F38.binds (ps := ["kind", "marks", "numbers", "pulls"]) fun _ _ _ _ _ _ us hl => match us, hl with | [_, _, _, _], _ => rfl
  have F39 := fun_mk (st := s_law_cell_at) l39 c39 k39
  have b39 := F39.binds (ps := ["script", "k"]) fun _ _ _ _ _ _ us hl => match us, hl with | [_, _], _ => rfl
  have F40 := fun_mk (st := s_law_low) l40 c40 k40
  have b40 := F40.binds (ps := ["top", "bottom"]) fun _ _ _ _ _ _ us hl => match us, hl with | [_, _], _ => rfl
  have F41 := fun_mk (st := s_law_sum) l41 c41 k41
  have b41 := F41.binds (ps := ["one", "other"]) fun _ _ _ _ _ _ us hl => match us, hl with | [_, _], _ => rfl
  have F42 := fun_mk (st := s_law_times) l42 c42 k42
  have b42 := F42.binds (ps := ["one", "other"]) fun _ _ _ _ _ _ us hl => match us, hl with | [_, _], _ => rfl
  have F43 := fun_mk (st := s_law_height) l43 c43 k43
  have b43 := F43.binds (ps := ["numbers", "x"]) fun _ _ _ _ _ _ us hl => match us, hl with | [_, _], _ => rfl
  have F44 := fun_mk (st := s_law_marks) l44 c44 k44
  have b44 := F44.binds (ps := ["script"]) fun _ _ _ _ _ _ us hl => match us, hl with | [_], _ => rfl
  have F45 := fun_mk (st := s_law_is_fractions) l45 c45 k45
  have b45 := F45.binds (ps := ["found", "many"]) fun _ _ _ _ _ _ us hl => match us, hl with | [_, _], _ => rfl
  have F46 := fun_mk (st := s_law_even) l46 c46 k46
  have b46 := F46.binds (ps := ["marks", "pulls", "bend"]) fun _ _ _ _ _ _ us hl => match us, hl with | [_, _, _], _ => rfl
  have F47 := fun_mk (st := s_law) l47 c47 k47
  have b47 := F47.binds (ps := ["script"]) fun _ _ _ _ _ _ us hl => match us, hl with | [_], _ => rfl
  have T : Txt K mg ⟨f_common_divisor, PySem.W.fnOf "common_divisor" "common_divisor" (defArgs s_common_divisor) (defBody s_common_divisor) (defScope s_common_divisor) .none kV0 dc0 pm0 an0 cd0 ct0, f_fraction, PySem.W.fnOf "fraction" "fraction" (defArgs s_fraction) (defBody s_fraction) (defScope s_fraction) .none kV1 dc1 pm1 an1 cd1 ct1, f_plus, PySem.W.fnOf "plus" "plus" (defArgs s_plus) (defBody s_plus) (defScope s_plus) .none kV2 dc2 pm2 an2 cd2 ct2, f_minus, PySem.W.fnOf "minus" "minus" (defArgs s_minus) (defBody s_minus) (defScope s_minus) .none kV3 dc3 pm3 an3 cd3 ct3, f_product, PySem.W.fnOf "product" "product" (defArgs s_product) (defBody s_product) (defScope s_product) .none kV4 dc4 pm4 an4 cd4 ct4, f_quotient, PySem.W.fnOf "quotient" "quotient" (defArgs s_quotient) (defBody s_quotient) (defScope s_quotient) .none kV5 dc5 pm5 an5 cd5 ct5, f_is_less, PySem.W.fnOf "is_less" "is_less" (defArgs s_is_less) (defBody s_is_less) (defScope s_is_less) .none kV6 dc6 pm6 an6 cd6 ct6, f_size_of, PySem.W.fnOf "size_of" "size_of" (defArgs s_size_of) (defBody s_size_of) (defScope s_size_of) .none kV7 dc7 pm7 an7 cd7 ct7, f_total_of, PySem.W.fnOf "total_of" "total_of" (defArgs s_total_of) (defBody s_total_of) (defScope s_total_of) .none kV8 dc8 pm8 an8 cd8 ct8, f_greatest_of, PySem.W.fnOf "greatest_of" "greatest_of" (defArgs s_greatest_of) (defBody s_greatest_of) (defScope s_greatest_of) .none kV9 dc9 pm9 an9 cd9 ct9, f_solved, PySem.W.fnOf "solved" "solved" (defArgs s_solved) (defBody s_solved) (defScope s_solved) .none kV10 dc10 pm10 an10 cd10 ct10, f_cleared, PySem.W.fnOf "cleared" "cleared" (defArgs s_cleared) (defBody s_cleared) (defScope s_cleared) .none kV11 dc11 pm11 an11 cd11 ct11, f_leading_spot, PySem.W.fnOf "leading_spot" "leading_spot" (defArgs s_leading_spot) (defBody s_leading_spot) (defScope s_leading_spot) .none kV12 dc12 pm12 an12 cd12 ct12, f_without, PySem.W.fnOf "without" "without" (defArgs s_without) (defBody s_without) (defScope s_without) .none kV13 dc13 pm13 an13 cd13 ct13, f_height_at, PySem.W.fnOf "height_at" "height_at" (defArgs s_height_at) (defBody s_height_at) (defScope s_height_at) .none kV14 dc14 pm14 an14 cd14 ct14, f_row_of, PySem.W.fnOf "row_of" "row_of" (defArgs s_row_of) (defBody s_row_of) (defScope s_row_of) .none kV15 dc15 pm15 an15 cd15 ct15, f_powers_of, PySem.W.fnOf "powers_of" "powers_of" (defArgs s_powers_of) (defBody s_powers_of) (defScope s_powers_of) .none kV16 dc16 pm16 an16 cd16 ct16, f_bent_through, PySem.W.fnOf "bent_through" "bent_through" (defArgs s_bent_through) (defBody s_bent_through) (defScope s_bent_through) .none kV17 dc17 pm17 an17 cd17 ct17, f_moments_of, PySem.W.fnOf "moments_of" "moments_of" (defArgs s_moments_of) (defBody s_moments_of) (defScope s_moments_of) .none kV18 dc18 pm18 an18 cd18 ct18, f_is_even, PySem.W.fnOf "is_even" "is_even" (defArgs s_is_even) (defBody s_is_even) (defScope s_is_even) .none kV19 dc19 pm19 an19 cd19 ct19, f_misses_of, PySem.W.fnOf "misses_of" "misses_of" (defArgs s_misses_of) (defBody s_misses_of) (defScope s_misses_of) .none kV20 dc20 pm20 an20 cd20 ct20, f_check_kind, PySem.W.fnOf "check_kind" "check_kind" (defArgs s_check_kind) (defBody s_check_kind) (defScope s_check_kind) .none kV21 dc21 pm21 an21 cd21 ct21, f_weighed_misses, PySem.W.fnOf "weighed_misses" "weighed_misses" (defArgs s_weighed_misses) (defBody s_weighed_misses) (defScope s_weighed_misses) .none kV22 dc22 pm22 an22 cd22 ct22, f_is_fair, PySem.W.fnOf "is_fair" "is_fair" (defArgs s_is_fair) (defBody s_is_fair) (defScope s_is_fair) .none kV23 dc23 pm23 an23 cd23 ct23, f_is_fair_far, PySem.W.fnOf "is_fair_far" "is_fair_far" (defArgs s_is_fair_far) (defBody s_is_fair_far) (defScope s_is_fair_far) .none kV24 dc24 pm24 an24 cd24 ct24, f_has_sign_of, PySem.W.fnOf "has_sign_of" "has_sign_of" (defArgs s_has_sign_of) (defBody s_has_sign_of) (defScope s_has_sign_of) .none kV25 dc25 pm25 an25 cd25 ct25, f_is_fair_sum, PySem.W.fnOf "is_fair_sum" "is_fair_sum" (defArgs s_is_fair_sum) (defBody s_is_fair_sum) (defScope s_is_fair_sum) .none kV26 dc26 pm26 an26 cd26 ct26, f_bend_least, PySem.W.fnOf "bend_least" "bend_least" (defArgs s_bend_least) (defBody s_bend_least) (defScope s_bend_least) .none kV27 dc27 pm27 an27 cd27 ct27, f_is_bend, PySem.W.fnOf "is_bend" "is_bend" (defArgs s_is_bend) (defBody s_is_bend) (defScope s_is_bend) .none kV28 dc28 pm28 an28 cd28 ct28, f_through_all, PySem.W.fnOf "through_all" "through_all" (defArgs s_through_all) (defBody s_through_all) (defScope s_through_all) .none kV29 dc29 pm29 an29 cd29 ct29, f_bend_square, PySem.W.fnOf "bend_square" "bend_square" (defArgs s_bend_square) (defBody s_bend_square) (defScope s_bend_square) .none kV30 dc30 pm30 an30 cd30 ct30, f_bend_far, PySem.W.fnOf "bend_far" "bend_far" (defArgs s_bend_far) (defBody s_bend_far) (defScope s_bend_far) .none kV31 dc31 pm31 an31 cd31 ct31, f_spread_spots, PySem.W.fnOf "spread_spots" "spread_spots" (defArgs s_spread_spots) (defBody s_spread_spots) (defScope s_spread_spots) .none kV32 dc32 pm32 an32 cd32 ct32, f_even_shares, PySem.W.fnOf "even_shares" "even_shares" (defArgs s_even_shares) (defBody s_even_shares) (defScope s_even_shares) .none kV33 dc33 pm33 an33 cd33 ct33, f_with_sign_of, PySem.W.fnOf "with_sign_of" "with_sign_of" (defArgs s_with_sign_of) (defBody s_with_sign_of) (defScope s_with_sign_of) .none kV34 dc34 pm34 an34 cd34 ct34, f_moved_by, PySem.W.fnOf "moved_by" "moved_by" (defArgs s_moved_by) (defBody s_moved_by) (defScope s_moved_by) .none kV35 dc35 pm35 an35 cd35 ct35, f_pulls_at, PySem.W.fnOf "pulls_at" "pulls_at" (defArgs s_pulls_at) (defBody s_pulls_at) (defScope s_pulls_at) .none kV36 dc36 pm36 an36 cd36 ct36, f_exchanged, PySem.W.fnOf "exchanged" "exchanged" (defArgs s_exchanged) (defBody s_exchanged) (defScope s_exchanged) .none kV37 dc37 pm37 an37 cd37 ct37, f_bend_shown, PySem.W.fnOf "bend_shown" "bend_shown" (defArgs s_bend_shown) (defBody s_bend_shown) (defScope s_bend_shown) .none kV38 dc38 pm38 an38 cd38 ct38, f_law_cell_at, PySem.W.fnOf "_law_cell_at" "_law_cell_at" (defArgs s_law_cell_at) (defBody s_law_cell_at) (defScope s_law_cell_at) .none kV39 dc39 pm39 an39 cd39 ct39, f_law_low, PySem.W.fnOf "_law_low" "_law_low" (defArgs s_law_low) (defBody s_law_low) (defScope s_law_low) .none kV40 dc40 pm40 an40 cd40 ct40, f_law_sum, PySem.W.fnOf "_law_sum" "_law_sum" (defArgs s_law_sum) (defBody s_law_sum) (defScope s_law_sum) .none kV41 dc41 pm41 an41 cd41 ct41, f_law_times, PySem.W.fnOf "_law_times" "_law_times" (defArgs s_law_times) (defBody s_law_times) (defScope s_law_times) .none kV42 dc42 pm42 an42 cd42 ct42, f_law_height, PySem.W.fnOf "_law_height" "_law_height" (defArgs s_law_height) (defBody s_law_height) (defScope s_law_height) .none kV43 dc43 pm43 an43 cd43 ct43, f_law_marks, PySem.W.fnOf "_law_marks" "_law_marks" (defArgs s_law_marks) (defBody s_law_marks) (defScope s_law_marks) .none kV44 dc44 pm44 an44 cd44 ct44, f_law_is_fractions, PySem.W.fnOf "_law_is_fractions" "_law_is_fractions" (defArgs s_law_is_fractions) (defBody s_law_is_fractions) (defScope s_law_is_fractions) .none kV45 dc45 pm45 an45 cd45 ct45, f_law_even, PySem.W.fnOf "_law_even" "_law_even" (defArgs s_law_even) (defBody s_law_even) (defScope s_law_even) .none kV46 dc46 pm46 an46 cd46 ct46, fa, PySem.W.fnOf "law" "law" (defArgs s_law) (defBody s_law) (defScope s_law) .none kV47 dc47 pm47 an47 cd47 ct47, x_NoNumber, x_NoKind, x_NoBend, x_NoAnswer, g_KINDS, g_NOUGHT⟩ := ⟨F0, PySem.W.mg_of X G a0, b0, F1, PySem.W.mg_of X G a1, b1, F2, PySem.W.mg_of X G a2, b2, F3, PySem.W.mg_of X G a3, b3, F4, PySem.W.mg_of X G a4, b4, F5, PySem.W.mg_of X G a5, b5, F6, PySem.W.mg_of X G a6, b6, F7, PySem.W.mg_of X G a7, b7, F8, PySem.W.mg_of X G a8, b8, F9, PySem.W.mg_of X G a9, b9, F10, PySem.W.mg_of X G a10, b10, F11, PySem.W.mg_of X G a11, b11, F12, PySem.W.mg_of X G a12, b12, F13, PySem.W.mg_of X G a13, b13, F14, PySem.W.mg_of X G a14, b14, F15, PySem.W.mg_of X G a15, b15, F16, PySem.W.mg_of X G a16, b16, F17, PySem.W.mg_of X G a17, b17, F18, PySem.W.mg_of X G a18, b18, F19, PySem.W.mg_of X G a19, b19, F20, PySem.W.mg_of X G a20, b20, F21, PySem.W.mg_of X G a21, b21, F22, PySem.W.mg_of X G a22, b22, F23, PySem.W.mg_of X G a23, b23, F24, PySem.W.mg_of X G a24, b24, F25, PySem.W.mg_of X G a25, b25, F26, PySem.W.mg_of X G a26, b26, F27, PySem.W.mg_of X G a27, b27, F28, PySem.W.mg_of X G a28, b28, F29, PySem.W.mg_of X G a29, b29, F30, PySem.W.mg_of X G a30, b30, F31, PySem.W.mg_of X G a31, b31, F32, PySem.W.mg_of X G a32, b32, F33, PySem.W.mg_of X G a33, b33, F34, PySem.W.mg_of X G a34, b34, F35, PySem.W.mg_of X G a35, b35, F36, PySem.W.mg_of X G a36, b36, F37, PySem.W.mg_of X G a37, b37, F38, PySem.W.mg_of X G a38, b38, F39, PySem.W.mg_of X G a39, b39, F40, PySem.W.mg_of X G a40, b40, F41, PySem.W.mg_of X G a41, b41, F42, PySem.W.mg_of X G a42, b42, F43, PySem.W.mg_of X G a43, b43, F44, PySem.W.mg_of X G a44, b44, F45, PySem.W.mg_of X G a45, b45, F46, PySem.W.mg_of X G a46, b46, F47, PySem.W.mg_of X G a47, b47, ⟨xx_NoNumber, PySem.W.mg_of X G ax_NoNumber⟩, ⟨xx_NoKind, PySem.W.mg_of X G ax_NoKind⟩, ⟨xx_NoBend, PySem.W.mg_of X G ax_NoBend⟩, ⟨xx_NoAnswer, PySem.W.mg_of X G ax_NoAnswer⟩, PySem.W.mg_none_of X G z_abs, PySem.W.mg_none_of X G z_all, PySem.W.mg_none_of X G z_bool, PySem.W.mg_none_of X G z_height, PySem.W.mg_none_of X G z_int, PySem.W.mg_none_of X G z_isinstance, PySem.W.mg_none_of X G z_led, PySem.W.mg_none_of X G z_len, PySem.W.mg_none_of X G z_list, PySem.W.mg_none_of X G z_mark, PySem.W.mg_none_of X G z_max, PySem.W.mg_none_of X G z_min, PySem.W.mg_none_of X G z_miss, PySem.W.mg_none_of X G z_moment, PySem.W.mg_none_of X G z_one, PySem.W.mg_none_of X G z_power, PySem.W.mg_none_of X G z_pull, PySem.W.mg_none_of X G z_range, PySem.W.mg_none_of X G z_reversed, PySem.W.mg_none_of X G z_row, PySem.W.mg_none_of X G z_share, PySem.W.mg_none_of X G z_spot, PySem.W.mg_none_of X G z_str, PySem.W.mg_none_of X G z_term, PySem.W.mg_none_of X G z_tuple, PySem.W.mg_none_of X G z_value, PySem.W.mg_none_of X G z_weight, PySem.W.mg_none_of X G z_zip, PySem.W.mg_of X G zc_KINDS, ktup (xs := [(.str "far"), (.str "sum"), (.str "square")]) lk_KINDS (Nat.le_of_lt (small1000 (show 3 ≤ 1000 by decide))) (.cons ⟨_, rfl⟩ (.cons ⟨_, rfl⟩ (.cons ⟨_, rfl⟩ .nil))) fun _ => .cons (.str "far") (.cons (.str "sum") (.cons (.str "square") .nil)), ⟨_, PySem.W.mg_of X G zc_MOST_BEND⟩, ⟨_, PySem.W.mg_of X G zc_MOST_NUMBERS⟩, PySem.W.mg_of X G zc_NOUGHT, ktup (xs := [(.int 0), (.int 1)]) lk_NOUGHT (Nat.le_of_lt (small1000 (show 2 ≤ 1000 by decide))) (.cons ⟨_, rfl⟩ (.cons ⟨_, rfl⟩ .nil)) fun _ => .cons (.int 0) (.cons (.int 1) .nil)⟩
  exact ⟨PySem.W.fnOf "law" "law" (defArgs s_law) (defBody s_law) (defScope s_law) .none kV47 dc47 pm47 an47 cd47 ct47, fun s v => .of_eq rfl, fun base _ _ => ok_law T⟩
end My
def PySem.W.Fast.tw9655176730524341108 : Unit := ()
def PySem.W.Fast.tw8033863290199338963 : Unit := ()
def PySem.W.Fast.tw1094670334461306657 : Unit := ()
def PySem.W.Fast.tw17942234139326454574 : Unit := ()
def PySem.W.Fast.tw8179530152704764394 : Unit := ()
def PySem.W.Fast.tw6497337131157349010 : Unit := ()
def PySem.W.Fast.tw16917121160791968706 : Unit := ()
def PySem.W.Fast.tw12050491075761326782 : Unit := ()
def PySem.W.Fast.tw14897160481354045408 : Unit := ()
def PySem.W.Fast.tw13597567509942822756 : Unit := ()
def PySem.W.Fast.tw13114130584273921636 : Unit := ()
def PySem.W.Fast.tw2631639435247553700 : Unit := ()
def PySem.W.Fast.tw15375006444222094608 : Unit := ()
def PySem.W.Fast.tw16520565820010733000 : Unit := ()
def PySem.W.Fast.tw9901722746739262843 : Unit := ()
def PySem.W.Fast.tw9292066526711272209 : Unit := ()
def PySem.W.Fast.tw12445074557683617687 : Unit := ()
def PySem.W.Fast.tw4323099423840614923 : Unit := ()
def PySem.W.Fast.tw4105152503098159681 : Unit := ()
def PySem.W.Fast.tw10053838138807204916 : Unit := ()
def PySem.W.Fast.tw7005737912418492150 : Unit := ()
def PySem.W.Fast.tw5358817960437559556 : Unit := ()
def PySem.W.Fast.tw6359540806135460507 : Unit := ()
def PySem.W.Fast.tw12448707901217632889 : Unit := ()
def PySem.W.Fast.tw18440670622742377168 : Unit := ()
def PySem.W.Fast.tw14389834762882742943 : Unit := ()
def PySem.W.Fast.tw15755945729186186571 : Unit := ()
def PySem.W.Fast.tw685740630506550439 : Unit := ()
def PySem.W.Fast.tw2764453343599123783 : Unit := ()
def PySem.W.Fast.tw1210931547808254836 : Unit := ()
def PySem.W.Fast.tw4524925578691557639 : Unit := ()
def PySem.W.Fast.tw4646885730503550404 : Unit := ()
def PySem.W.Fast.tw5450595223027160303 : Unit := ()
def PySem.W.Fast.tw7779097296487887746 : Unit := ()
def PySem.W.Fast.tw14725256602665802813 : Unit := ()
def PySem.W.Fast.tw5400755771567753914 : Unit := ()
def PySem.W.Fast.tw10343897866904582983 : Unit := ()
def PySem.W.Fast.tw343692928189191594 : Unit := ()
def PySem.W.Fast.tw16738531132060518332 : Unit := ()
def PySem.W.Fast.tw14511742792593808397 : Unit := ()
def PySem.W.Fast.tw73953554198176045 : Unit := ()
def PySem.W.Fast.tw225334873166425473 : Unit := ()
def PySem.W.Fast.tw1410827220123523632 : Unit := ()
def PySem.W.Fast.tw16180417910175588022 : Unit := ()
def PySem.W.Fast.tw5182989391300683830 : Unit := ()
def PySem.W.Fast.tw18218058898626987831 : Unit := ()
def PySem.W.Fast.tw14016525805515731918 : Unit := ()
def PySem.W.Fast.tw10419229720478097932 : Unit := ()
def PySem.W.Fast.tw3833071678335707867 : Unit := ()
def PySem.W.Fast.tw8976883393808975937 : Unit := ()
def PySem.W.Fast.tw10713618022506890867 : Unit := ()
def PySem.W.Fast.tw6917106968118290846 : Unit := ()
def PySem.W.Fast.tw13391532691359766462 : Unit := ()
def PySem.W.Fast.tw5115663058820184847 : Unit := ()
def PySem.W.Fast.tw1784805437014118991 : Unit := ()
def PySem.W.Fast.tw18112656039138139189 : Unit := ()
def PySem.W.Fast.tw2962874895281387822 : Unit := ()
def PySem.W.Fast.tw8057381847492745272 : Unit := ()
def PySem.W.Fast.tw12718612453652215107 : Unit := ()
def PySem.W.Fast.tw2823722151679558377 : Unit := ()
def PySem.W.Fast.tw16006307523940365610 : Unit := ()
def PySem.W.Fast.tw1266972004174640828 : Unit := ()
def PySem.W.Fast.tw3972062647458934976 : Unit := ()
def PySem.W.Fast.tw9612579007567401887 : Unit := ()
def PySem.W.Fast.tw17897674111080441888 : Unit := ()
def PySem.W.Fast.tw8577575864581097284 : Unit := ()
def PySem.W.Fast.tw12242005229177857101 : Unit := ()
def PySem.W.Fast.tw1827753090414380993 : Unit := ()
def PySem.W.Fast.tw3476264424126223737 : Unit := ()
def PySem.W.Fast.tw2022697485863096802 : Unit := ()
def PySem.W.Fast.tw5354798371649335789 : Unit := ()
def PySem.W.Fast.tw2157919137895220292 : Unit := ()
def PySem.W.Fast.tw6992575724607742969 : Unit := ()
def PySem.W.Fast.tw11506109230898897066 : Unit := ()
def PySem.W.Fast.tw15895191822724836992 : Unit := ()
def PySem.W.Fast.tw9523077086301149066 : Unit := ()
def PySem.W.Fast.tw16770003903818457464 : Unit := ()
def PySem.W.Fast.tw13400718772184122720 : Unit := ()
def PySem.W.Fast.tw3593894452826382182 : Unit := ()
def PySem.W.Fast.tw5115261152620187806 : Unit := ()
def PySem.W.Fast.tw7753548055605871312 : Unit := ()
def PySem.W.Fast.tw6444791098708019768 : Unit := ()
def PySem.W.Fast.tw505698806076719838 : Unit := ()
def PySem.W.Fast.tw16293144589118718884 : Unit := ()
def PySem.W.Fast.tw11654426927283373849 : Unit := ()
def PySem.W.Fast.tw4064855493011202530 : Unit := ()
def PySem.W.Fast.tw292205583279361907 : Unit := ()
def PySem.W.Fast.tw7990189935971628566 : Unit := ()
def PySem.W.Fast.tw16389030152337818300 : Unit := ()
def PySem.W.Fast.tw882110985998322000 : Unit := ()
def PySem.W.Fast.tw2126012334064347052 : Unit := ()
def PySem.W.Fast.tw1352178597293294526 : Unit := ()
def PySem.W.Fast.tw3518534265931323650 : Unit := ()
def PySem.W.Fast.tw14607746917384200908 : Unit := ()
def PySem.W.Fast.tw11416334727242508111 : Unit := ()
def PySem.W.Fast.tw4522986910363069038 : Unit := ()
def PySem.W.Fast.tw4726548962010319526 : Unit := ()
def PySem.W.Fast.tw11813388211386167011 : Unit := ()
def PySem.W.Fast.tw14065486789516230546 : Unit := ()
def PySem.W.Fast.tw3037150575857111264 : Unit := ()
def PySem.W.Fast.tw270339045230994133 : Unit := ()
def PySem.W.Fast.tw4407035857935091657 : Unit := ()
def PySem.W.Fast.tw1830487939912407978 : Unit := ()
def PySem.W.Fast.tw3774767941773100680 : Unit := ()
def PySem.W.Fast.tw14006219093524249419 : Unit := ()
def PySem.W.Fast.tw9535279146870041116 : Unit := ()
def PySem.W.Fast.tw5658760479542770812 : Unit := ()
def PySem.W.Fast.tw13712352580592087545 : Unit := ()
def PySem.W.Fast.tw17991483534217488298 : Unit := ()
def PySem.W.Fast.tw7784412875645505291 : Unit := ()
def PySem.W.Fast.tw1143372253007737602 : Unit := ()
def PySem.W.Fast.tw11481855169346382096 : Unit := ()
def PySem.W.Fast.tw6974543432350122836 : Unit := ()
def PySem.W.Fast.tw11977542268151051760 : Unit := ()
def PySem.W.Fast.tw2701636263144225014 : Unit := ()
def PySem.W.Fast.tw4196084404508134495 : Unit := ()
def PySem.W.Fast.tw7429422935845449365 : Unit := ()
def PySem.W.Fast.tw10337518438873743082 : Unit := ()
def PySem.W.Fast.tw9583091549556890465 : Unit := ()
open PySem PySem.W PyProof.Rows
set_option maxRecDepth 100000 in
set_option maxHeartbeats 0 in
theorem PySem.Challenge.cw_leastmiss_k32_bent_by_squares_walked_holds : PySem.Challenge.rw_leastmiss_k32_bent_by_squares_walked.Holds := by
  w_on; o_law; k_head; (case hw => w_witness2)
  k_fill
  refine Lx.walkB (l := PySem.Challenge.rw_leastmiss_k32_bent_by_squares_walked) (k := 10) rfl rfl ⟨rfl, by decide, by decide⟩ (fun w h Y => PySem.W.kIn_of Y) ?F
  case F =>
    intro w mg fa h KX G hmg
    refine' My.all_mk KX G hmg ?a0 ?l0 ?c0 ?k0 ?a1 ?l1 ?c1 ?k1 ?a2 ?l2 ?c2 ?k2 ?a3 ?l3 ?c3 ?k3 ?a4 ?l4 ?c4 ?k4 ?a5 ?l5 ?c5 ?k5 ?a6 ?l6 ?c6 ?k6 ?a7 ?l7 ?c7 ?k7 ?a8 ?l8 ?c8 ?k8 ?a9 ?l9 ?c9 ?k9 ?a10 ?l10 ?c10 ?k10 ?a11 ?l11 ?c11 ?k11 ?a12 ?l12 ?c12 ?k12 ?a13 ?l13 ?c13 ?k13 ?a14 ?l14 ?c14 ?k14 ?a15 ?l15 ?c15 ?k15 ?a16 ?l16 ?c16 ?k16 ?a17 ?l17 ?c17 ?k17 ?a18 ?l18 ?c18 ?k18 ?a19 ?l19 ?c19 ?k19 ?a20 ?l20 ?c20 ?k20 ?a21 ?l21 ?c21 ?k21 ?a22 ?l22 ?c22 ?k22 ?a23 ?l23 ?c23 ?k23 ?a24 ?l24 ?c24 ?k24 ?a25 ?l25 ?c25 ?k25 ?a26 ?l26 ?c26 ?k26 ?a27 ?l27 ?c27 ?k27 ?a28 ?l28 ?c28 ?k28 ?a29 ?l29 ?c29 ?k29 ?a30 ?l30 ?c30 ?k30 ?a31 ?l31 ?c31 ?k31 ?a32 ?l32 ?c32 ?k32 ?a33 ?l33 ?c33 ?k33 ?a34 ?l34 ?c34 ?k34 ?a35 ?l35 ?c35 ?k35 ?a36 ?l36 ?c36 ?k36 ?a37 ?l37 ?c37 ?k37 ?a38 ?l38 ?c38 ?k38 ?a39 ?l39 ?c39 ?k39 ?a40 ?l40 ?c40 ?k40 ?a41 ?l41 ?c41 ?k41 ?a42 ?l42 ?c42 ?k42 ?a43 ?l43 ?c43 ?k43 ?a44 ?l44 ?c44 ?k44 ?a45 ?l45 ?c45 ?k45 ?a46 ?l46 ?c46 ?k46 ?a47 ?l47 ?c47 ?k47 ?ax_NoNumber ?xx_NoNumber ?ax_NoKind ?xx_NoKind ?ax_NoBend ?xx_NoBend ?ax_NoAnswer ?xx_NoAnswer ?z_abs ?z_all ?z_bool ?z_height ?z_int ?z_isinstance ?z_led ?z_len ?z_list ?z_mark ?z_max ?z_min ?z_miss ?z_moment ?z_one ?z_power ?z_pull ?z_range ?z_reversed ?z_row ?z_share ?z_spot ?z_str ?z_term ?z_tuple ?z_value ?z_weight ?z_zip ?zc_KINDS ?lk_KINDS ?zc_MOST_BEND ?zc_MOST_NUMBERS ?zc_NOUGHT ?lk_NOUGHT
    (case a0 => k_is)
    (case l0 => k_is)
    (case c0 => k_is)
    (case k0 => k_is)
    (case a1 => k_is)
    (case l1 => k_is)
    (case c1 => k_is)
    (case k1 => k_is)
    (case a2 => k_is)
    (case l2 => k_is)
    (case c2 => k_is)
    (case k2 => k_is)
    (case a3 => k_is)
    (case l3 => k_is)
    (case c3 => k_is)
    (case k3 => k_is)
    (case a4 => k_is)
    (case l4 => k_is)
    (case c4 => k_is)
    (case k4 => k_is)
    (case a5 => k_is)
    (case l5 => k_is)
    (case c5 => k_is)
    (case k5 => k_is)
    (case a6 => k_is)
    (case l6 => k_is)
    (case c6 => k_is)
    (case k6 => k_is)
    (case a7 => k_is)
    (case l7 => k_is)
    (case c7 => k_is)
    (case k7 => k_is)
    (case a8 => k_is)
    (case l8 => k_is)
    (case c8 => k_is)
    (case k8 => k_is)
    (case a9 => k_is)
    (case l9 => k_is)
    (case c9 => k_is)
    (case k9 => k_is)
    (case a10 => k_is)
    (case l10 => k_is)
    (case c10 => k_is)
    (case k10 => k_is)
    (case a11 => k_is)
    (case l11 => k_is)
    (case c11 => k_is)
    (case k11 => k_is)
    (case a12 => k_is)
    (case l12 => k_is)
    (case c12 => k_is)
    (case k12 => k_is)
    (case a13 => k_is)
    (case l13 => k_is)
    (case c13 => k_is)
    (case k13 => k_is)
    (case a14 => k_is)
    (case l14 => k_is)
    (case c14 => k_is)
    (case k14 => k_is)
    (case a15 => k_is)
    (case l15 => k_is)
    (case c15 => k_is)
    (case k15 => k_is)
    (case a16 => k_is)
    (case l16 => k_is)
    (case c16 => k_is)
    (case k16 => k_is)
    (case a17 => k_is)
    (case l17 => k_is)
    (case c17 => k_is)
    (case k17 => k_is)
    (case a18 => k_is)
    (case l18 => k_is)
    (case c18 => k_is)
    (case k18 => k_is)
    (case a19 => k_is)
    (case l19 => k_is)
    (case c19 => k_is)
    (case k19 => k_is)
    (case a20 => k_is)
    (case l20 => k_is)
    (case c20 => k_is)
    (case k20 => k_is)
    (case a21 => k_is)
    (case l21 => k_is)
    (case c21 => k_is)
    (case k21 => k_is)
    (case a22 => k_is)
    (case l22 => k_is)
    (case c22 => k_is)
    (case k22 => k_is)
    (case a23 => k_is)
    (case l23 => k_is)
    (case c23 => k_is)
    (case k23 => k_is)
    (case a24 => k_is)
    (case l24 => k_is)
    (case c24 => k_is)
    (case k24 => k_is)
    (case a25 => k_is)
    (case l25 => k_is)
    (case c25 => k_is)
    (case k25 => k_is)
    (case a26 => k_is)
    (case l26 => k_is)
    (case c26 => k_is)
    (case k26 => k_is)
    (case a27 => k_is)
    (case l27 => k_is)
    (case c27 => k_is)
    (case k27 => k_is)
    (case a28 => k_is)
    (case l28 => k_is)
    (case c28 => k_is)
    (case k28 => k_is)
    (case a29 => k_is)
    (case l29 => k_is)
    (case c29 => k_is)
    (case k29 => k_is)
    (case a30 => k_is)
    (case l30 => k_is)
    (case c30 => k_is)
    (case k30 => k_is)
    (case a31 => k_is)
    (case l31 => k_is)
    (case c31 => k_is)
    (case k31 => k_is)
    (case a32 => k_is)
    (case l32 => k_is)
    (case c32 => k_is)
    (case k32 => k_is)
    (case a33 => k_is)
    (case l33 => k_is)
    (case c33 => k_is)
    (case k33 => k_is)
    (case a34 => k_is)
    (case l34 => k_is)
    (case c34 => k_is)
    (case k34 => k_is)
    (case a35 => k_is)
    (case l35 => k_is)
    (case c35 => k_is)
    (case k35 => k_is)
    (case a36 => k_is)
    (case l36 => k_is)
    (case c36 => k_is)
    (case k36 => k_is)
    (case a37 => k_is)
    (case l37 => k_is)
    (case c37 => k_is)
    (case k37 => k_is)
    (case a38 => k_is)
    (case l38 => k_is)
    (case c38 => k_is)
    (case k38 => k_is)
    (case a39 => k_is)
    (case l39 => k_is)
    (case c39 => k_is)
    (case k39 => k_is)
    (case a40 => k_is)
    (case l40 => k_is)
    (case c40 => k_is)
    (case k40 => k_is)
    (case a41 => k_is)
    (case l41 => k_is)
    (case c41 => k_is)
    (case k41 => k_is)
    (case a42 => k_is)
    (case l42 => k_is)
    (case c42 => k_is)
    (case k42 => k_is)
    (case a43 => k_is)
    (case l43 => k_is)
    (case c43 => k_is)
    (case k43 => k_is)
    (case a44 => k_is)
    (case l44 => k_is)
    (case c44 => k_is)
    (case k44 => k_is)
    (case a45 => k_is)
    (case l45 => k_is)
    (case c45 => k_is)
    (case k45 => k_is)
    (case a46 => k_is)
    (case l46 => k_is)
    (case c46 => k_is)
    (case k46 => k_is)
    (case a47 => k_is)
    (case l47 => k_is)
    (case c47 => k_is)
    (case k47 => k_is)
    (case ax_NoNumber => k_is)
    (case xx_NoNumber => k_exc)
    (case ax_NoKind => k_is)
    (case xx_NoKind => k_exc)
    (case ax_NoBend => k_is)
    (case xx_NoBend => k_exc)
    (case ax_NoAnswer => k_is)
    (case xx_NoAnswer => k_exc)
    (case z_abs => k_is)
    (case z_all => k_is)
    (case z_bool => k_is)
    (case z_height => k_is)
    (case z_int => k_is)
    (case z_isinstance => k_is)
    (case z_led => k_is)
    (case z_len => k_is)
    (case z_list => k_is)
    (case z_mark => k_is)
    (case z_max => k_is)
    (case z_min => k_is)
    (case z_miss => k_is)
    (case z_moment => k_is)
    (case z_one => k_is)
    (case z_power => k_is)
    (case z_pull => k_is)
    (case z_range => k_is)
    (case z_reversed => k_is)
    (case z_row => k_is)
    (case z_share => k_is)
    (case z_spot => k_is)
    (case z_str => k_is)
    (case z_term => k_is)
    (case z_tuple => k_is)
    (case z_value => k_is)
    (case z_weight => k_is)
    (case z_zip => k_is)
    (case zc_KINDS => k_is)
    (case lk_KINDS => k_is)
    (case zc_MOST_BEND => k_is)
    (case zc_MOST_NUMBERS => k_is)
    (case zc_NOUGHT => k_is)
    (case lk_NOUGHT => k_is)
