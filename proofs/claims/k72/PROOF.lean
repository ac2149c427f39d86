import PyProof.Rows.All
import Wide.All
import OpenK.AllK
import Wide.FinOn
import Lean
import PyProof.EqAt
import PyProof.EqKinds
import PyProof.TupleCall
import PySem.Challenge.RW_leastmiss_k72_marks_read
set_option Elab.async false
set_option linter.all false
set_option maxRecDepth 100000
set_option compiler.extract_closed false
namespace L2
open PySem PySem.Spec PyProof.Rows
noncomputable abbrev Key := Sum Int Str
noncomputable def keyIs : Key → Value → Bool
  | .inl k, v => Value.isInt k v
  | .inr x, v => Value.isStrOf x v
noncomputable def keyH (w : World) : Key → Int
  | .inl k => hashInt k
  | .inr x => hashStr w x
theorem keyIs_shape : ∀ {k : Key} {v : Value}, keyIs k v = true → (∃ i t, k = Sum.inl i ∧ v = Value.int i t) ∨ (∃ x t, k = Sum.inr x ∧ v = Value.str x t)
  | .inl i, v, h => by
    obtain ⟨t, e⟩ := Value.isInt_shape (k := i) (v := v) h
    exact .inl ⟨i, t, rfl, e⟩
  | .inr x, v, h => by
    obtain ⟨t, e⟩ := Value.isStrOf_shape (x := x) (v := v) h
    exact .inr ⟨x, t, rfl, e⟩
theorem key_ll (a b : Int) : decide ((Sum.inl a : Key) = Sum.inl b) = (a == b) := by
  by_cases e : a = b
  · subst e; simp
  · have h : ¬ (Sum.inl a : Key) = Sum.inl b := fun q => e (Sum.inl.inj q)
    rw [decide_eq_false h]
    exact (beq_eq_false_iff_ne.mpr e).symm
theorem key_rr (a b : Str) : decide ((Sum.inr a : Key) = Sum.inr b) = decide (a = b) := by
  by_cases e : a = b
  · subst e; simp
  · have h : ¬ (Sum.inr a : Key) = Sum.inr b := fun q => e (Sum.inr.inj q)
    rw [decide_eq_false h, decide_eq_false e]
theorem key_lr (a : Int) (b : Str) : decide ((Sum.inl a : Key) = Sum.inr b) = false := decide_eq_false (fun q => nomatch q)
theorem key_rl (a : Str) (b : Int) : decide ((Sum.inr a : Key) = Sum.inl b) = false := decide_eq_false (fun q => nomatch q)
noncomputable def mixKind (prog : Program) (w : World) : PySem.KeyKind prog w Key where
  is := keyIs
  hash := keyH w
  inj := fun v a b ha hb => by
    rcases keyIs_shape ha with ⟨i, t, rfl, rfl⟩ | ⟨x, t, rfl, rfl⟩
    · rcases keyIs_shape hb with ⟨j, u, rfl, e⟩ | ⟨y, u, rfl, e⟩
      · injection e with e1 _; rw [e1]
      · exact nomatch e
    · rcases keyIs_shape hb with ⟨j, u, rfl, e⟩ | ⟨y, u, rfl, e⟩
      · exact nomatch e
      · injection e with e1 _; rw [e1]
  byValue := fun k v h => by
    rcases keyIs_shape h with ⟨i, t, rfl, rfl⟩ | ⟨x, t, rfl, rfl⟩ <;> rfl
  pyHash := fun hv h => by
    rcases keyIs_shape hv with ⟨i, t, rfl, rfl⟩ | ⟨x, t, rfl, rfl⟩
    · exact wpAny_pyHash_int h
    · exact wpAny_pyHash_str h
  eqBool := fun hu hv h => by
    rcases keyIs_shape hu with ⟨i, t, rfl, rfl⟩ | ⟨x, t, rfl, rfl⟩
    · rcases keyIs_shape hv with ⟨j, u, rfl, rfl⟩ | ⟨y, u, rfl, rfl⟩
      · rw [key_ll] at h; exact wpAny_eqBool_int h
      · rw [key_lr] at h; exact SeqAt.EqAt.int_str i t y u _ _ _ _ h
    · rcases keyIs_shape hv with ⟨j, u, rfl, rfl⟩ | ⟨y, u, rfl, rfl⟩
      · rw [key_rl] at h; exact SeqAt.EqAt.str_int x t j u _ _ _ _ h
      · rw [key_rr] at h; exact wpAny_eqBool_str h
  «strs» := fun k x t v h => by
    rcases keyIs_shape h with ⟨i, u, rfl, e⟩ | ⟨y, u, rfl, e⟩
    · exact nomatch e
    · injection e with e1 _
      subst e1
      cases v <;> rfl
end L2
namespace L2
open PySem PySem.Spec PyProof.Rows
inductive V where
  | non | bl (b : Bool) | int (i : Int) | str (x : Str) | byt (b : Array UInt8) | flt (b : UInt64) | ref (a : Addr) | ty (n : String)
  deriving DecidableEq
noncomputable def RelV : V → Value → Prop
  | .non, u => u = Value.none
  | .bl b, u => u = Value.bool b
  | .int i, u => ∃ t, u = Value.int i t
  | .str x, u => ∃ t, u = Value.str x t
  | .byt b, u => ∃ t, u = Value.bytes b t
  | .flt b, u => ∃ t, u = Value.float b t
  | .ref a, u => u = Value.ref a
  | .ty n, u => u = Value.type n
noncomputable abbrev Vals : List V → List Value → Prop := Paired RelV
theorem Vals.length {xs : List V} {us : List Value} (r : Vals xs us) : xs.length = us.length := Paired.length r
theorem Vals.get : ∀ {xs : List V} {us : List Value} {i : Nat} {x : V}, Vals xs us → xs[i]? = some x → ∃ u, us[i]? = some u ∧ RelV x u
  | _, _, _, _, .nil, e => by simp at e
  | _, _, 0, _, .cons r _, e => by simp at e; subst e; exact ⟨_, rfl, r⟩
  | _, _, i + 1, x, .cons _ t, e => by
    obtain ⟨u, h1, h2⟩ := Vals.get (i := i) (x := x) t (by simpa using e)
    exact ⟨u, by simpa using h1, h2⟩
theorem Vals.set {x : V} {u : Value} (r : RelV x u) : ∀ {xs : List V} {us : List Value} (i : Nat), Vals xs us → Vals (xs.set i x) (us.set i u)
  | _, _, _, .nil => .nil
  | _, _, 0, .cons _ t => .cons r t
  | _, _, i + 1, .cons q t => .cons q (Vals.set r i t)
theorem Vals.append : ∀ {xs ys : List V} {us ws : List Value}, Vals xs us → Vals ys ws → Vals (xs ++ ys) (us ++ ws)
  | _, _, _, _, .nil, s => s
  | _, _, _, _, .cons r t, s => .cons r (Vals.append t s)
theorem Vals.take : ∀ {xs : List V} {us : List Value} (n : Nat), Vals xs us → Vals (xs.take n) (us.take n)
  | _, _, 0, _ => .nil
  | _, _, _ + 1, .nil => .nil
  | _, _, n + 1, .cons r t => .cons r (Vals.take n t)
theorem Vals.drop : ∀ {xs : List V} {us : List Value} (n : Nat), Vals xs us → Vals (xs.drop n) (us.drop n)
  | _, _, 0, r => r
  | _, _, _ + 1, .nil => .nil
  | _, _, n + 1, .cons _ t => Vals.drop n t
noncomputable def RelO : Option V → Option Value → Prop
  | some v, some u => RelV v u
  | none, none => True
  | _, _ => False
noncomputable def KV {κ : Type} : List (κ × V) → List (κ × Value) → Prop := Paired fun (p : κ × V) (q : κ × Value) => p.1 = q.1 ∧ RelV p.2 q.2
noncomputable def kV : Key → V
  | .inl i => .int i
  | .inr x => .str x
inductive HO where
    | lst (xs : List V)
    | tup (xs : List V)
    | dK (kvs : List (Key × V)) | dT (kvs : List (List Key × V))
    | set (S : Int → Bool) (n : Nat)
    | ins (C dx : Addr) (fs : List (Str × V))
    | own (x : Addr)
    | xd (fs : List (Str × V))
    | met (f x : Addr)
    | rng (lo hi : Int)
    | frz (o : Obj) (u : HO)
    | tbl (ps : Array Value)
    | ext (φ : Heap → Prop)
noncomputable abbrev Hp := Addr → Option HO
noncomputable def upd (H : Hp) (a : Addr) (o : HO) : Hp := fun b => if b = a then some o else H b
theorem upd_same {H : Hp} {a : Addr} {o : HO} : upd H a o a = some o := by unfold upd; rw [if_pos rfl]
theorem upd_ne {H : Hp} {a b : Addr} {o : HO} (h : b ≠ a) : upd H a o b = H b := by unfold upd; rw [if_neg h]
theorem ne_of_none {H : Hp} {a b : Addr} {o : HO} (h : H a = some o) (h' : H b = none) : a ≠ b := by
  intro e; subst e; rw [h] at h'; cases h'
section
variable (P : Program) (w : World)
noncomputable def ObjOk (H : Hp) (h : Heap) (a : Addr) : HO → Prop
  | .lst xs => xs.length ≤ sizeLine ∧ ∃ (its : List Value) (n : Nat), Vals xs its ∧ h.get? a = some { cls := .type "list", data := .seq its.toArray n }
  | .tup xs => xs.length ≤ sizeLine ∧ ∃ its : List Value, Vals xs its ∧ IsTup h a its.toArray
  | .dK kvs => kvs.length ≤ sizeLine ∧ (a == sysModules) = false ∧ ∃ vs, KV kvs vs ∧ h.DictOf (mixKind P w) a vs
  | .dT kvs => kvs.length ≤ sizeLine ∧ (a == sysModules) = false ∧ ∃ xs : List (List Key × Addr × Value),
      Paired (fun (p : List Key × V) (q : List Key × Addr × Value) => p.1 = q.1 ∧ H q.2.1 = some (.tup (p.1.map kV)) ∧ RelV p.2 q.2.2) kvs xs ∧
      ∃ o es ep, h.get? a = some o ∧ o.ExactDict ∧ o.data = .dict es ep ∧ es.toList = xs.map (entryOfKey (tupleKind (mixKind P w))) ∧ (xs.map (·.1)).Nodup
  | .set S n => h.SetOf (intKind P w) a S n
  | .ins C dx fs => H dx = some (.own a) ∧ fs.length ≤ 1000 ∧ dx ≠ a ∧ h.get? a = some (PySem.W.instObj C dx) ∧
      ∃ mA, h.Ns1 dx mA ∧ (∀ f, RelO (fs.lookup f) (mA f)) ∧ PySem.Within mA (fs.map (·.1))
  | .own _ => ∃ o, h.get? a = some o
  | .xd fs => ∃ mA, h.Ns1 a mA ∧ ∀ f, RelO (fs.lookup f) (mA f)
  | .rng lo hi => ∃ t u v, h.get? a = some { cls := .type "range", data := .fields #[.int lo t, .int hi u, .int 1 v] }
  | .frz o u => h.get? a = some o ∧ ObjOk H h a u
  | .tbl ps => h.get? a = some { cls := .none, data := .fields ps }
  | .met f x => h.get? a = some (PySem.W.methodObj (.ref f) (.ref x))
  | .ext φ => φ h ∧ (∃ o, h.get? a = some o) ∧ ∀ h1 h2 : Heap, φ h1 → (∀ o, h1.get? a = some o → h2.get? a = some o) → φ h2
noncomputable def HOk (H : Hp) (h : Heap) : Prop := ∀ a o, H a = some o → ObjOk P w H h a o
end
section
variable {P : Program} {w : World} {H H' : Hp} {h h' : Heap} {a : Addr} {o : HO}
theorem ObjOk.lt (x : ObjOk P w H h a o) : a < h.objs.size := by
  cases o with
  | lst xs => obtain ⟨_, _, _, _, e⟩ := x; exact Heap.lt_size e
  | tup xs => obtain ⟨_, _, _, p⟩ := x; exact p.lt
  | dK kvs => obtain ⟨_, _, _, _, o, _, _, e, _⟩ := x; exact Heap.lt_size e
  | dT kvs => obtain ⟨_, _, _, _, o, _, _, e, _⟩ := x; exact Heap.lt_size e
  | set S n => obtain ⟨o, _, _, _, e, _⟩ := x; exact Heap.lt_size e
  | ins C dx fs => obtain ⟨_, _, _, e, _⟩ := x; exact Heap.lt_size e
  | own y => obtain ⟨_, e⟩ := x; exact Heap.lt_size e
  | xd fs => obtain ⟨_, ⟨_, _, _, e, _⟩, _⟩ := x; exact Heap.lt_size e
  | rng lo hi => obtain ⟨_, _, _, e⟩ := x; exact Heap.lt_size e
  | frz ob u => obtain ⟨e, _⟩ := x; exact Heap.lt_size e
  | tbl ps => exact Heap.lt_size (show h.get? a = some _ from x)
  | met f y => exact Heap.lt_size (show h.get? a = some _ from x)
  | ext φ => obtain ⟨_, ⟨_, e⟩, _⟩ := x; exact Heap.lt_size e
theorem Paired.mapP {α β : Type} {F G : α → β → Prop} : ∀ {l₁ : List α} {l₂ : List β}, Paired F l₁ l₂ → (∀ a b, F a b → G a b) → Paired G l₁ l₂
  | _, _, .nil, _ => .nil
  | _, _, .cons r t, f => .cons (f _ _ r) (Paired.mapP t f)
theorem ObjOk.stay (x : ObjOk P w H h a o) (k : ∀ b u, (b = a ∨ H b = some (.own a)) → h.get? b = some u → h'.get? b = some u)
    (ho : ∀ b, H b = some (.own a) → H' b = some (.own a)) (ht : ∀ b xs, H b = some (.tup xs) → H' b = some (.tup xs)) : ObjOk P w H' h' a o := by
  induction o with
  | lst xs => obtain ⟨z, its, n, r, e⟩ := x; exact ⟨z, its, n, r, k _ _ (.inl rfl) e⟩
  | tup xs => obtain ⟨z, its, r, ob, e, c⟩ := x; exact ⟨z, its, r, ob, k _ _ (.inl rfl) e, c⟩
  | dK kvs => obtain ⟨z, y, vs, r, ob, es, ep, e, c⟩ := x; exact ⟨z, y, vs, r, ob, es, ep, k _ _ (.inl rfl) e, c⟩
  | dT kvs =>
    obtain ⟨z, y, xs, r, ob, es, ep, e, c⟩ := x
    exact ⟨z, y, xs, Paired.mapP r fun p q z => ⟨z.1, ht _ _ z.2.1, z.2.2⟩, ob, es, ep, k _ _ (.inl rfl) e, c⟩
  | set S n => obtain ⟨ob, es, ep, t, e, c⟩ := x; exact ⟨ob, es, ep, t, k _ _ (.inl rfl) e, c⟩
  | ins C dx fs =>
    obtain ⟨d, z, ne, e, mA, ⟨od, es, ep, e2, c⟩, r⟩ := x
    exact ⟨ho _ d, z, ne, k _ _ (.inl rfl) e, mA, ⟨od, es, ep, k _ _ (.inr d) e2, c⟩, r⟩
  | own y => obtain ⟨ob, e⟩ := x; exact ⟨ob, k _ _ (.inl rfl) e⟩
  | xd fs => obtain ⟨mA, ⟨od, es, ep, e, c⟩, r⟩ := x; exact ⟨mA, ⟨od, es, ep, k _ _ (.inl rfl) e, c⟩, r⟩
  | rng lo hi => obtain ⟨t, u, v, e⟩ := x; exact ⟨t, u, v, k _ _ (.inl rfl) e⟩
  | frz ob u ih => obtain ⟨e, q⟩ := x; exact ⟨k _ _ (.inl rfl) e, ih q⟩
  | tbl ps =>
    have e : h.get? a = some { cls := .none, data := .fields ps } := x
    show h'.get? a = some { cls := .none, data := .fields ps }
    exact k a _ (.inl rfl) e
  | met f y =>
    have e : h.get? a = some (PySem.W.methodObj (.ref f) (.ref y)) := x
    show h'.get? a = some (PySem.W.methodObj (.ref f) (.ref y))
    exact k a _ (.inl rfl) e
  | ext φ => obtain ⟨p, ⟨o, e⟩, st⟩ := x; exact ⟨st _ _ p fun o q => k _ _ (.inl rfl) q, ⟨o, k _ _ (.inl rfl) e⟩, st⟩
theorem HOk.lt (x : HOk P w H h) (e : H a = some o) : a < h.objs.size := (x a o e).lt
theorem HOk.fresh (x : HOk P w H h) (e : h.objs.size ≤ a) : H a = none := by
  cases q : H a with
  | none => rfl
  | some u => exact absurd (Nat.lt_of_lt_of_le (x.lt q) e) (Nat.lt_irrefl _)
theorem HOk.kept (x : HOk P w H h) (k : ∀ b u, h.get? b = some u → h'.get? b = some u) : HOk P w H h' := fun a o e =>
  (x a o e).stay (fun b u _ q => k b u q) (fun _ q => q) fun _ _ q => q
theorem HOk.laid (x : HOk P w H h) (k : ∀ b u, h.get? b = some u → h'.get? b = some u) (hp : h.objs.size ≤ a) (new : ObjOk P w (upd H a o) h' a o) : HOk P w (upd H a o) h' := fun b u e => by
  have hn := x.fresh hp
  by_cases hb : b = a
  · subst hb; rw [upd_same] at e; cases e; exact new
  · rw [upd_ne hb] at e
    exact (x b u e).stay (fun c v _ q => k c v q) (fun c q => by rw [upd_ne (ne_of_none q hn)]; exact q) fun c xs q => by rw [upd_ne (ne_of_none q hn)]; exact q
end
noncomputable def Rd (H : Hp) (a : Addr) (u : HO) : Prop := H a = some u ∨ ∃ o, H a = some (.frz o u)
theorem Rd.of {H : Hp} {a : Addr} {u : HO} (h : H a = some u) : Rd H a u := .inl h
theorem Rd.ok {P : Program} {w : World} {H : Hp} {h : Heap} {a : Addr} {u : HO} (r : Rd H a u) (x : HOk P w H h) : ObjOk P w H h a u := by
  rcases r with r | ⟨o, r⟩
  · exact x a u r
  · obtain ⟨_, q⟩ := x a _ r
    exact q
noncomputable def Mut : Option HO → Prop
  | some (.lst _) => True
  | some (.dK _) => True
  | some (.dT _) => True
  | some (.set _ _) => True
  | some (.ins _ _ _) => True
  | some (.ext _) => True
  | _ => False
section
variable {P : Program} {w : World} {H : Hp} {h h' : Heap} {x e : Addr} {o' : HO}
theorem HOk.write (ok : HOk P w H h) (mu : Mut (H x)) (he : e = x ∨ H e = some (.own x)) (k : ∀ b u, b ≠ e → h.get? b = some u → h'.get? b = some u) (heo : ∃ u, h'.get? e = some u)
    (new : ObjOk P w (upd H x o') h' x o') : HOk P w (upd H x o') h' := fun b u q => by
  have nown : ∀ c y, H c = some (.own y) → c ≠ x := fun c y r z => by subst z; rw [r] at mu; exact mu
  have ntup : ∀ c xs, H c = some (.tup xs) → c ≠ x := fun c xs r z => by subst z; rw [r] at mu; exact mu
  by_cases hb : b = x
  · subst hb; rw [upd_same] at q; cases q; exact new
  · rw [upd_ne hb] at q
    by_cases hbe : b = e
    · have q' : H b = some (.own x) := by
        rcases he with z | z
        · exact absurd (hbe.trans z) hb
        · rw [hbe]; exact z
      rw [q] at q'; cases q'
      obtain ⟨v, hv⟩ := heo
      exact ⟨v, by rw [hbe]; exact hv⟩
    · refine (ok b u q).stay (fun c v hc r => k c v ?_ r) (fun c r => by rw [upd_ne (nown c b r)]; exact r) fun c xs r => by rw [upd_ne (ntup c xs r)]; exact r
      rcases hc with rfl | hc
      · exact hbe
      · rintro rfl
        rcases he with z | z
        · exact nown c b hc z
        · rw [hc] at z; cases z; exact hb rfl
end
structure Un (fs ex : List Addr) (H H' : Hp) (h h' : Heap) : Prop where
  keep : ∀ b o, h.get? b = some o → H b = none → b ∉ fs → b ∉ ex → h'.get? b = some o
  slot : ∀ b o, h.get? b = some o → H b = none → b ∈ fs → b ∉ ex → ∃ sl, h'.get? b = some { o with slots := sl }
  free : ∀ b o, h.get? b = some o → H b = none → b ∉ ex → H' b = none
  there : ∀ b o, h.get? b = some o → b ∉ ex → ∃ o', h'.get? b = some o'
  tups : ∀ b xs, H b = some (.tup xs) → H' b = some (.tup xs)
  frzs : ∀ b o u, H b = some (.frz o u) → H' b = some (.frz o u)
  tbls : ∀ b ps, H b = some (.tbl ps) → ∃ more, H' b = some (.tbl (ps ++ more))
section
variable {fs fs' ex ex' : List Addr} {H H1 H2 : Hp} {h h1 h2 h' : Heap} {a x e : Addr} {o : HO}
theorem Un.any (u : Un fs ex H H1 h h1) {b : Addr} {ob : Obj} (q : h.get? b = some ob) (n : H b = none) (hx : b ∉ ex) : ∃ sl, h1.get? b = some { ob with slots := sl } := by
  by_cases hb : b ∈ fs
  · exact u.slot b ob q n hb hx
  · exact ⟨ob.slots, u.keep b ob q n hb hx⟩
theorem Un.trans (a : Un fs ex H H1 h h1) (b : Un fs ex H1 H2 h1 h2) : Un fs ex H H2 h h2 where
  keep := fun c ob q n hc hx => b.keep c ob (a.keep c ob q n hc hx) (a.free c ob q n hx) hc hx
  slot := fun c ob q n hc hx => by
    obtain ⟨sl, e1⟩ := a.slot c ob q n hc hx
    obtain ⟨sl', e2⟩ := b.slot c _ e1 (a.free c ob q n hx) hc hx
    exact ⟨sl', e2⟩
  free := fun c ob q n hx => by
    obtain ⟨o', e1⟩ := a.there c ob q hx
    exact b.free c o' e1 (a.free c ob q n hx) hx
  there := fun c ob q hx => by
    obtain ⟨o', e1⟩ := a.there c ob q hx
    exact b.there c o' e1 hx
  tups := fun c xs q => b.tups c xs (a.tups c xs q)
  frzs := fun c ob xs q => b.frzs c ob xs (a.frzs c ob xs q)
  tbls := fun c ps q => by
    obtain ⟨m1, e1⟩ := a.tbls c ps q
    obtain ⟨m2, e2⟩ := b.tbls c _ e1
    exact ⟨m1 ++ m2, by rw [e2, Array.append_assoc]⟩
theorem Un.kept (k : ∀ b u, h.get? b = some u → h'.get? b = some u) : Un fs ex H H h h' :=
  ⟨fun b ob q _ _ _ => k b ob q, fun b ob q _ _ _ => ⟨ob.slots, k b ob q⟩, fun _ _ _ n _ => n, fun b ob q _ => ⟨ob, k b ob q⟩, fun _ _ q => q, fun _ _ _ q => q, fun _ ps q => ⟨#[], by rw [q]; simp⟩⟩
theorem Un.refl : Un fs ex H H h h := Un.kept fun _ _ q => q
theorem Un.laid (k : ∀ b u, h.get? b = some u → h'.get? b = some u) (hp : h.objs.size ≤ a) (hn : H a = none) : Un fs ex H (upd H a o) h h' where
  keep := fun b u q _ _ _ => k b u q
  slot := fun b u q _ _ _ => ⟨u.slots, k b u q⟩
  free := fun b u q n _ => by rw [upd_ne (Nat.ne_of_lt (Nat.lt_of_lt_of_le (Heap.lt_size q) hp))]; exact n
  there := fun b u q _ => ⟨u, k b u q⟩
  tups := fun b xs q => by rw [upd_ne (ne_of_none q hn)]; exact q
  frzs := fun b u xs q => by rw [upd_ne (ne_of_none q hn)]; exact q
  tbls := fun b ps q => ⟨#[], by rw [upd_ne (ne_of_none q hn), q]; simp⟩
theorem Un.write (mu : Mut (H x)) (he : e = x ∨ H e = some (.own x)) (k : ∀ b u, b ≠ e → h.get? b = some u → h'.get? b = some u) (heo : ∃ u, h'.get? e = some u) : Un fs ex H (upd H x o) h h' := by
  have hx : ∀ b, H b = none → b ≠ x := fun b n z => by subst z; rw [n] at mu; exact mu
  have hb : ∀ b, H b = none → b ≠ e := fun b n z => by
    subst z
    rcases he with r | r
    · exact hx b n r
    · rw [n] at r; cases r
  have hm : ∀ b u, H b = some u → ¬ Mut (some u) → b ≠ x := fun b u q nm z => by subst z; rw [q] at mu; exact nm mu
  refine ⟨fun b u q n _ _ => k b u (hb b n) q, fun b u q n _ _ => ⟨u.slots, k b u (hb b n) q⟩, fun b u q n _ => by rw [upd_ne (hx b n)]; exact n, fun b u q _ => ?_,
    fun b xs q => by rw [upd_ne (hm b _ q fun z => z)]; exact q, fun b u xs q => by rw [upd_ne (hm b _ q fun z => z)]; exact q, fun b ps q => ⟨#[], by rw [upd_ne (hm b _ q fun z => z), q]; simp⟩⟩
  by_cases hbe : b = e
  · subst hbe; exact heo
  · exact ⟨u, k b u hbe q⟩
theorem Un.mono (u : Un fs ex H H1 h h1) (hs : ∀ b ∈ fs, b ∈ fs') (hx : ∀ b ∈ ex, b ∈ ex') : Un fs' ex' H H1 h h1 :=
  ⟨fun b ob q n hb he => u.keep b ob q n (fun z => hb (hs b z)) fun z => he (hx b z), fun _ _ q n _ he => u.any q n fun z => he (hx _ z), fun b ob q n he => u.free b ob q n fun z => he (hx b z), fun b ob q he => u.there b ob q fun z => he (hx b z), u.tups, u.frzs, u.tbls⟩
end
noncomputable def trk (h : Heap) (H : Hp) : List Addr := (List.range h.objs.size).filter fun a => (H a).isSome
noncomputable def hidT (h : Heap) (H : Hp) : Heap := PySem.W.hideAll h (trk h H)
theorem hidT_size (h : Heap) (H : Hp) : (hidT h H).objs.size = h.objs.size := PySem.W.hideAll_size _ _
theorem hidT_get {h : Heap} {H : Hp} {b : Addr} {o : Obj} (e : h.get? b = some o) (n : H b = none) : (hidT h H).get? b = some o :=
  PySem.W.hideAll_get _ e fun hm => by
    have q : (H b).isSome = true := (List.mem_filter.mp hm).2
    rw [n] at q; simp at q
theorem of_hidT {h : Heap} {H : Hp} {b : Addr} {o : Obj} (e : (hidT h H).get? b = some o) : h.get? b = some o ∧ H b = none := by
  have e' : h.get? b = some o := PySem.W.of_hideAll (trk h H) e
  refine ⟨e', ?_⟩
  cases q : H b with
  | none => rfl
  | some x =>
    have hm : b ∈ trk h H := List.mem_filter.mpr ⟨List.mem_range.mpr (Heap.lt_size e'), by simp [q]⟩
    have z : (hidT h H).get? b = none := PySem.W.hideAll_none (trk h H) hm
    rw [z] at e; cases e
noncomputable def allNews (g h : Heap) (L : Addr) : List (Addr × Obj) := (List.range h.objs.size).filterMap fun a => if a = L ∨ (g.get? a).isSome = true then none else (h.get? a).map fun o => (a, o)
noncomputable def rest (g h : Heap) (L d : Addr) : List (Addr × Obj) := (allNews g h L).filter fun p => decide (p.1 ≠ d)
end L2
namespace L2
open PySem PySem.Spec PyProof.Rows
structure Mod (K : PySem.W.Frag) (mg : Str → Option Value) (base : Heap) : Prop where
  kin : K.In base
  glob : base.Ns mainGlobals mg
  blt : ∃ mb, base.Ns builtinsNs mb ∧ ∀ x : Str, x ≠ "__name__" → mb x = bootBuiltins x
  nolimit : base.NoLimit
structure Cx where
  prog : Program
  w : World
  K : PySem.W.Frag
  mg : Str → Option Value
  base : Heap
  A : Around
  N : List Str
  s₀ : Shared
  H₀ : Hp
  env : Env
  outer : List Env
  stack : List Env
  ex : List Addr
  fn : Str → Bool
  calm : Bool
  pn : List (Addr × Obj)
  xe : Value → Shared → Prop
noncomputable def frs (l : List Env) : List Addr := l.filterMap (·.frame)
noncomputable abbrev Cx.fs (X : Cx) : List Addr := frs X.outer
noncomputable def Vis (sc : Scope) (x : Str) : Prop := sc.names.lookup x = some .local ∨ sc.names.lookup x = some .cell ∨ sc.names.lookup x = some .free
noncomputable def Loc (sc : Scope) (x : Str) : Prop := sc.names.lookup x = some .local ∨ sc.names.lookup x = some .cell
noncomputable def Look (env : Env) (h : Heap) (m : Str → Option Value) (x : Str) (u : Value) : Prop :=
  (env.kindOf x = some .local ∧ m x = some u) ∨ ((env.kindOf x = some .cell ∨ env.kindOf x = some .free) ∧ ∃ c, env.cells.lookup x = some c ∧ h.IsCell c (some u))
structure Cx.Ok (X : Cx) : Prop where
  mod : Mod X.K X.mg X.base
  kind : X.env.scope.kind = .function
  glob : X.env.globals = mainGlobals
  blt : X.env.builtins = builtinsNs
  above : X.s₀.heap.objs.size ≤ X.env.locals
  inj : ∀ x y c, X.env.cells.lookup x = some c → X.env.cells.lookup y = some c → x = y
  has : ∀ x, (X.env.kindOf x = some .cell ∨ X.env.kindOf x = some .free) → ∃ c, X.env.cells.lookup x = some c
  cab : ∀ x c, X.fn x = true → X.env.cells.lookup x = some c → X.s₀.heap.objs.size ≤ c
  hd : X.calm = true → X.A.handled = none
  frames : X.A.frames = some X.stack
  stk : X.stack = X.outer ∨ (X.stack = X.env :: X.outer ∧ X.env.frame = some X.env.locals)
  exf : ∀ b ∈ X.ex, b ≠ X.env.locals ∧ ∀ x c, X.env.cells.lookup x = some c → c ≠ b
  bs : ∀ b o, X.base.get? b = some o → X.s₀.heap.get? b = some o ∧ X.H₀ b = none
  bsz : X.base.objs.size ≤ X.s₀.heap.objs.size
  noex : ∀ b o, X.base.get? b = some o → b ∉ X.ex
  exfs : ∀ b ∈ X.ex, b ∉ X.fs
  funs : X.s₀.heap.FunFrames X.base X.outer
  frf : ∀ b ∈ X.fs, X.H₀ b = none
structure Inv (X : Cx) (pins : List (Addr × Obj)) (σ : List (Option V)) (H : Hp) (s : Shared) : Prop where
  ok : X.Ok
  os : s.os = X.s₀.os
  bare : AllBare s.gens
  base : Un X.fs X.ex X.H₀ H X.s₀.heap s.heap
  loc : ∃ m, s.heap.Ns X.env.locals m ∧ ∀ (i : Nat) (x : Str) (v : V), X.N[i]? = some x → σ[i]? = some (some v) → Vis X.env.scope x → ∃ u, RelV v u ∧ Look X.env s.heap m x u
  cell : ∀ x c, X.env.cells.lookup x = some c → ∃ v, s.heap.IsCell c v
  free : H X.env.locals = none
  freeC : ∀ x c, X.env.cells.lookup x = some c → H c = none
  pin : ∀ p ∈ X.pn ++ pins, s.heap.get? p.1 = some p.2 ∧ H p.1 = none ∧ p.1 ≠ X.env.locals ∧ p.1 ∉ X.fs ∧ ∀ v, p.2.data ≠ .cell v
  hok : HOk X.prog X.w H s.heap
  len : σ.length = X.N.length
section
variable {X : Cx} {pins : List (Addr × Obj)} {σ : List (Option V)} {H H' : Hp} {s : Shared} {h' : Heap}
theorem Cx.Ok.nofr (ok : X.Ok) {b : Addr} {o : Obj} (e : X.base.get? b = some o) : b ∉ X.fs := fun hb => by
  have := (ok.funs.mem hb).1
  rw [e] at this; cases this
theorem Inv.bs (I : Inv X pins σ H s) : ∀ b o, X.base.get? b = some o → s.heap.get? b = some o ∧ H b = none := fun b o e =>
  ⟨I.base.keep b o (I.ok.bs b o e).1 (I.ok.bs b o e).2 (I.ok.nofr e) (I.ok.noex b o e), I.base.free b o (I.ok.bs b o e).1 (I.ok.bs b o e).2 (I.ok.noex b o e)⟩
theorem Inv.bk (I : Inv X pins σ H s) : ∀ b o, X.base.get? b = some o → s.heap.get? b = some o := fun b o e => (I.bs b o e).1
theorem Inv.mod (I : Inv X pins σ H s) : Mod X.K X.mg X.base := I.ok.mod
theorem Inv.kIn (I : Inv X pins σ H s) : X.K.In s.heap := I.ok.mod.kin.keeps I.bk
theorem Inv.nolimit (I : Inv X pins σ H s) : s.heap.NoLimit := I.ok.mod.nolimit.keeps I.bk
theorem Inv.fr (I : Inv X pins σ H s) : ∃ m, Fr X.base X.env.locals s.heap m :=
  let ⟨m, hn, _⟩ := I.loc
  ⟨m, hn, I.bk, Nat.le_trans I.ok.bsz I.ok.above⟩
theorem Inv.lt (I : Inv X pins σ H s) : X.env.locals < s.heap.objs.size := let ⟨_, hn, _⟩ := I.loc; hn.lt
theorem Inv.sz (I : Inv X pins σ H s) : X.s₀.heap.objs.size ≤ s.heap.objs.size := Nat.le_trans I.ok.above (Nat.le_of_lt I.lt)
theorem Inv.nofs (I : Inv X pins σ H s) {a : Addr} (h : s.heap.objs.size ≤ a) : a ∉ X.fs := fun hb => by
  obtain ⟨_, o, ho, _⟩ := I.ok.funs.mem hb
  exact absurd (Nat.lt_of_lt_of_le (Heap.lt_size ho) (Nat.le_trans I.sz h)) (Nat.lt_irrefl _)
theorem Inv.cne (I : Inv X pins σ H s) : ∀ x c, X.env.cells.lookup x = some c → c ≠ X.env.locals := fun x c e z => by
  obtain ⟨v, o, ho, hd⟩ := I.cell x c e
  obtain ⟨m, ⟨o', es, ep, ho', hd', _⟩, _⟩ := I.loc
  rw [z, ho'] at ho; cases ho; rw [hd'] at hd; cases hd
theorem Inv.funs (I : Inv X pins σ H s) : s.heap.FunFrames X.base X.outer := by
  have all : ∀ (l : List Env), (∀ b ∈ frs l, b ∈ X.fs) → X.s₀.heap.FunFrames X.base l → s.heap.FunFrames X.base l := by
    intro l
    induction l with
    | nil => intro _ _; trivial
    | cons env r ih =>
      intro hs hl
      obtain ⟨hk, ⟨L, o, hf, hn, ho, hd⟩, hr⟩ := hl
      have hL : L ∈ X.fs := hs L (by unfold frs; rw [List.filterMap_cons, hf]; exact List.mem_cons_self)
      obtain ⟨sl, e⟩ := I.base.slot L o ho (I.ok.frf L hL) hL fun z => I.ok.exfs L z hL
      exact ⟨hk, ⟨L, _, hf, hn, e, hd⟩, ih (fun b hb => hs b (by unfold frs; rw [List.filterMap_cons, hf]; exact List.mem_cons_of_mem _ hb)) hr⟩
  exact all X.outer (fun _ hb => hb) I.ok.funs
theorem Inv.stack (I : Inv X pins σ H s) : s.heap.FunFrames X.base X.stack := by
  rcases I.ok.stk with e | ⟨e, hf⟩
  · rw [e]; exact I.funs
  · rw [e]
    obtain ⟨m, hn, _⟩ := I.loc
    refine .cons (by rw [I.ok.kind]; decide) hf hn ?_ I.funs
    exact Heap.get?_none_of_le (Nat.le_trans I.ok.bsz I.ok.above)
theorem Inv.stkSub (I : Inv X pins σ H s) : ∀ b ∈ frs X.stack, b ∈ X.env.locals :: X.fs := fun b hb => by
  rcases I.ok.stk with e | ⟨e, hf⟩
  · rw [e] at hb; exact List.mem_cons_of_mem _ hb
  · rw [e] at hb
    unfold frs at hb
    rw [List.filterMap_cons, hf] at hb
    exact hb
theorem Inv.stkFree (I : Inv X pins σ H s) : ∀ b ∈ frs X.stack, H b = none := fun b hb => by
  rcases List.mem_cons.mp (I.stkSub b hb) with e | hb
  · rw [e]; exact I.free
  · obtain ⟨_, o, ho, _⟩ := I.ok.funs.mem hb
    exact I.base.free b o ho (I.ok.frf b hb) fun z => I.ok.exfs b z hb
theorem Inv.step {g' : Array GenState} {t' : Nat} {d' : Drawn} {ch : List Addr} (I : Inv X pins σ H s)
    (hch : ∀ b ∈ ch, (b ∈ X.ex ∨ X.s₀.heap.objs.size ≤ b) ∧ b ≠ X.env.locals ∧ (∀ x c, X.env.cells.lookup x = some c → c ≠ b) ∧ ∀ p ∈ X.pn ++ pins, p.1 ≠ b)
    (keep : ∀ b o, b ≠ X.env.locals → b ∉ X.fs → b ∉ ch → s.heap.get? b = some o → H b = none → h'.get? b = some o)
    (slot : ∀ b o, b ≠ X.env.locals → b ∈ X.fs → b ∉ ch → s.heap.get? b = some o → H b = none → ∃ sl, h'.get? b = some { o with slots := sl }) (free : ∀ b o, b ∉ ch → s.heap.get? b = some o → H b = none → H' b = none)
    (there : ∀ b o, b ∉ ch → s.heap.get? b = some o → ∃ o', h'.get? b = some o')
    (tups : ∀ b xs, H b = some (.tup xs) → H' b = some (.tup xs)) (frzs : ∀ b o u, H b = some (.frz o u) → H' b = some (.frz o u)) (tbls : ∀ b ps, H b = some (.tbl ps) → ∃ more, H' b = some (.tbl (ps ++ more)))
    (ns : ∀ m, s.heap.Ns X.env.locals m → h'.Ns X.env.locals m) (hok : HOk X.prog X.w H' h') (hg : AllBare g') :
    Inv X pins σ H' { s with heap := h', gens := g', drawn := d', toks := t' } := by
  have neL : ∀ b o, X.s₀.heap.get? b = some o → b ≠ X.env.locals := fun b o e => Nat.ne_of_lt (Nat.lt_of_lt_of_le (Heap.lt_size e) I.ok.above)
  have neC : ∀ b o, X.s₀.heap.get? b = some o → b ∉ X.ex → b ∉ ch := fun b o e hx hb => by
    rcases (hch b hb).1 with z | z
    · exact hx z
    · exact absurd (Nat.lt_of_lt_of_le (Heap.lt_size e) z) (Nat.lt_irrefl _)
  have cellK : ∀ x c, X.env.cells.lookup x = some c → ∀ v, s.heap.IsCell c v → h'.IsCell c v := fun x c e v ⟨o, ho, hd⟩ => by
    have nch : c ∉ ch := fun z => (hch c z).2.2.1 x c e rfl
    by_cases hc : c ∈ X.fs
    · obtain ⟨sl, q⟩ := slot c o (I.cne x c e) hc nch ho (I.freeC x c e)
      exact ⟨_, q, hd⟩
    · exact ⟨o, keep c o (I.cne x c e) hc nch ho (I.freeC x c e), hd⟩
  refine ⟨I.ok, I.os, hg, ⟨fun b o e n hb hx => ?_, fun b o e n hb hx => ?_, fun b o e n hx => ?_, fun b o e hx => ?_, fun b xs e => tups b xs (I.base.tups b xs e), fun b o xs e => frzs b o xs (I.base.frzs b o xs e), fun b ps e => ?_⟩, ?_, fun x c e => ?_, ?_, fun x c e => ?_, fun p hp => ?_, hok, I.len⟩
  · exact keep b o (neL b o e) hb (neC b o e hx) (I.base.keep b o e n hb hx) (I.base.free b o e n hx)
  · obtain ⟨sl, e1⟩ := I.base.slot b o e n hb hx
    obtain ⟨sl', e2⟩ := slot b _ (neL b o e) hb (neC b o e hx) e1 (I.base.free b o e n hx)
    exact ⟨sl', e2⟩
  · obtain ⟨o', e1⟩ := I.base.there b o e hx
    exact free b o' (neC b o e hx) e1 (I.base.free b o e n hx)
  · obtain ⟨o', e1⟩ := I.base.there b o e hx
    exact there b o' (neC b o e hx) e1
  · obtain ⟨m1, e1⟩ := I.base.tbls b ps e
    obtain ⟨m2, e2⟩ := tbls b _ e1
    exact ⟨m1 ++ m2, by rw [e2, Array.append_assoc]⟩
  · obtain ⟨m, hn, hl⟩ := I.loc
    refine ⟨m, ns m hn, fun i x v e1 e2 e3 => ?_⟩
    obtain ⟨u, r, l⟩ := hl i x v e1 e2 e3
    refine ⟨u, r, ?_⟩
    rcases l with l | ⟨k, c, e, z⟩
    · exact .inl l
    · exact .inr ⟨k, c, e, cellK x c e _ z⟩
  · obtain ⟨v, z⟩ := I.cell x c e
    exact ⟨v, cellK x c e v z⟩
  · obtain ⟨m, ⟨o, _, _, ho, _⟩, _⟩ := I.loc
    exact free _ o (fun z => (hch _ z).2.1 rfl) ho I.free
  · obtain ⟨v, o, ho, hd⟩ := I.cell x c e
    exact free c o (fun z => (hch c z).2.2.1 x c e rfl) ho (I.freeC x c e)
  · obtain ⟨e, n, ne, nf, d⟩ := I.pin p hp
    have nch : p.1 ∉ ch := fun z => (hch p.1 z).2.2.2 p hp rfl
    exact ⟨keep p.1 p.2 ne nf nch e n, free p.1 p.2 nch e n, ne, nf, d⟩
theorem Inv.un {t' : Nat} (I : Inv X pins σ H s) (u : Un X.fs [] H H' s.heap h') (hok : HOk X.prog X.w H' h') : Inv X pins σ H' { s with heap := h', toks := t' } := by
  obtain ⟨m, ⟨o, es, ep, ho, r⟩, _⟩ := id I.loc
  obtain ⟨sl, hL⟩ := u.any ho I.free (by simp)
  exact I.step (g' := s.gens) (d' := s.drawn) (ch := []) (fun _ z => nomatch z) (fun b o _ hb _ e n => u.keep b o e n hb (by simp)) (fun b o _ hb _ e n => u.slot b o e n hb (by simp)) (fun b o _ e n => u.free b o e n (by simp)) (fun b o _ e => u.there b o e (by simp)) u.tups u.frzs u.tbls (fun m' hm => by
    obtain ⟨o', es', ep', ho', r'⟩ := hm
    rw [ho] at ho'; cases ho'
    exact ⟨_, es', ep', hL, r'⟩) hok I.bare
theorem Inv.call {g' : Array GenState} {t' : Nat} {d' : Drawn} {ch : List Addr} (I : Inv X pins σ H s) (u : Un (frs X.stack) ch H H' s.heap h') (hok : HOk X.prog X.w H' h') (hg : AllBare g')
    (hch : ∀ b ∈ ch, (b ∈ X.ex ∨ X.s₀.heap.objs.size ≤ b) ∧ b ≠ X.env.locals ∧ (∀ x c, X.env.cells.lookup x = some c → c ≠ b) ∧ ∀ p ∈ X.pn ++ pins, p.1 ≠ b) :
    Inv X pins σ H' { s with heap := h', gens := g', drawn := d', toks := t' } := by
  obtain ⟨m, ⟨o, es, ep, ho, r⟩, _⟩ := id I.loc
  obtain ⟨sl, hL⟩ := u.any ho I.free fun z => (hch _ z).2.1 rfl
  exact I.step (ch := ch) hch (fun b o hL hb hc e n => u.keep b o e n (fun z => (List.mem_cons.mp (I.stkSub b z)).elim hL hb) hc) (fun b o _ _ hc e n => u.any e n hc) (fun b o hc e n => u.free b o e n hc) (fun b o hc e => u.there b o e hc) u.tups u.frzs u.tbls (fun m' hm => by
    obtain ⟨o', es', ep', ho', r'⟩ := hm
    rw [ho] at ho'; cases ho'
    exact ⟨_, es', ep', hL, r'⟩) hok hg
theorem Inv.turned {t' : Nat} {it : Addr} (I : Inv X pins σ H s) (k : ∀ b o, b ≠ it → s.heap.get? b = some o → h'.get? b = some o) (hn : H it = none) (hL : it ≠ X.env.locals)
    (h1 : it ∈ X.ex ∨ X.s₀.heap.objs.size ≤ it) (h2 : ∀ x c, X.env.cells.lookup x = some c → c ≠ it) (h3 : ∀ p ∈ X.pn ++ pins, p.1 ≠ it) : Inv X pins σ H { s with heap := h', toks := t' } := by
  have nit : ∀ b u, H b = some u → b ≠ it := fun b u e z => by rw [z, hn] at e; cases e
  refine I.step (g' := s.gens) (d' := s.drawn) (ch := [it]) (fun b hb => ?_) (fun b o _ _ hc e _ => k b o (fun z => hc (by simp [z])) e) (fun b o _ _ hc e _ => ⟨o.slots, k b o (fun z => hc (by simp [z])) e⟩) (fun _ _ _ _ n => n)
    (fun b o hc e => ⟨o, k b o (fun z => hc (by simp [z])) e⟩) (fun _ _ e => e) (fun _ _ _ e => e) (fun b ps e => ⟨#[], by rw [e]; simp⟩) (fun m hm => ?_) (fun b u e => ?_) I.bare
  · have e : b = it := by simpa using hb
    subst e
    exact ⟨h1, hL, h2, h3⟩
  · obtain ⟨o, es, ep, ho, r⟩ := hm
    exact ⟨o, es, ep, k _ o (Ne.symm hL) ho, r⟩
  · refine (I.hok b u e).stay (fun c v hc q => k c v ?_ q) (fun _ q => q) fun _ _ q => q
    rcases hc with z | z
    · rw [z]; exact nit b u e
    · exact nit c _ z
theorem Inv.tok (I : Inv X pins σ H s) (t : Nat) : Inv X pins σ H { s with toks := t } := I.un (h' := s.heap) (t' := t) Un.refl I.hok
theorem Inv.kept {t' : Nat} (I : Inv X pins σ H s) (k : ∀ b u, s.heap.get? b = some u → h'.get? b = some u) : Inv X pins σ H { s with heap := h', toks := t' } := I.un (Un.kept k) (I.hok.kept k)
theorem Inv.laid {a : Addr} {o : HO} {t' : Nat} (I : Inv X pins σ H s) (k : ∀ b u, s.heap.get? b = some u → h'.get? b = some u) (hp : s.heap.objs.size ≤ a) (new : ObjOk X.prog X.w (upd H a o) h' a o) :
    Inv X pins σ (upd H a o) { s with heap := h', toks := t' } := I.un (Un.laid k hp (I.hok.fresh hp)) (I.hok.laid k hp new)
theorem Inv.write {x e : Addr} {o : HO} {t' : Nat} (I : Inv X pins σ H s) (mu : Mut (H x)) (he : e = x ∨ H e = some (.own x)) (k : ∀ b u, b ≠ e → s.heap.get? b = some u → h'.get? b = some u) (heo : ∃ u, h'.get? e = some u)
    (new : ObjOk X.prog X.w (upd H x o) h' x o) : Inv X pins σ (upd H x o) { s with heap := h', toks := t' } := I.un (Un.write mu he k heo) (I.hok.write mu he k heo new)
theorem Inv.pins_of {pins' : List (Addr × Obj)} (I : Inv X pins σ H s) (h : ∀ p ∈ pins', s.heap.get? p.1 = some p.2 ∧ H p.1 = none ∧ p.1 ≠ X.env.locals ∧ p.1 ∉ X.fs ∧ ∀ v, p.2.data ≠ .cell v) : Inv X pins' σ H s :=
  ⟨I.ok, I.os, I.bare, I.base, I.loc, I.cell, I.free, I.freeC, fun p hp => (List.mem_append.mp hp).elim (fun z => I.pin p (List.mem_append_left _ z)) (h p), I.hok, I.len⟩
theorem nodup_ix {N : List Str} (hN : N.Nodup) {i j : Nat} {x : Str} (a : N[i]? = some x) (b : N[j]? = some x) : i = j := by
  obtain ⟨h1, e1⟩ := List.getElem?_eq_some_iff.mp a
  obtain ⟨h2, e2⟩ := List.getElem?_eq_some_iff.mp b
  exact (List.getElem_inj hN).mp (e1.trans e2.symm)
theorem store_ok2 {M : Model} {A : Around} {E : Value → Shared → Prop} {i : Nat} {x : Str} {v : V} {u : Value} {Q : Unit → Shared → Prop} (I : Inv X pins σ H s) (hN : X.N.Nodup) (hi : X.N[i]? = some x) (hx : Loc X.env.scope x) (r : RelV v u)
    (h : ∀ s', Inv X pins (σ.set i (some v)) H s' → (∃ a, Heap.SameBut a s.heap s'.heap ∧ (a = X.env.locals ∨ X.env.cells.lookup x = some a)) → Q () s') (hf : X.fn x = true ∨ X.env.scope.names.lookup x = some .local := by first | exact .inl rfl | exact .inr rfl | assumption) : wpAny M A (storeName X.env x u) Q E s := by
  obtain ⟨m, hn, hl⟩ := id I.loc
  have hcls : (X.env.scope.kind == .class || (X.env.scope.kind == .module && X.env.locals != X.env.globals)) = false := by rw [I.ok.kind]; rfl
  have hiσ : i < σ.length := by rw [I.len]; exact (List.getElem?_eq_some_iff.mp hi).1
  have cne := I.cne
  have tracked : ∀ {a : Addr} {h' : Heap}, (∃ o, s.heap.get? a = some o ∧ H a = none) → Heap.SameBut a s.heap h' → HOk X.prog X.w H h' := fun {a h'} ha hs b ob e => by
    obtain ⟨_, _, hfree⟩ := ha
    refine (I.hok b ob e).stay (fun c w' hc q => (hs.2 c ?_).trans q) (fun _ q => q) fun _ _ q => q
    rintro rfl
    rcases hc with rfl | hc
    · rw [hfree] at e; cases e
    · rw [hfree] at hc; cases hc
  rcases hx with hk | hk
  · refine wpAny_storeName_local hk hn (fun h' hn' hs => ?_) hcls
    obtain ⟨oL, _, _, hoL, _⟩ := id hn
    refine h _ ⟨I.ok, I.os, I.bare, ⟨fun b o e n hb hx => ?_, fun b o e n hb hx => ?_, I.base.free, fun b o e hx => ?_, I.base.tups, I.base.frzs, I.base.tbls⟩, ⟨_, hn', fun j y v' e1 e2 e3 => ?_⟩, fun y c e => ?_, I.free, I.freeC, fun p hp => ?_, tracked ⟨oL, hoL, I.free⟩ hs, by simpa using I.len⟩ ⟨_, hs, .inl rfl⟩
    · exact (hs.2 b (Nat.ne_of_lt (Nat.lt_of_lt_of_le (Heap.lt_size e) I.ok.above))).trans (I.base.keep b o e n hb hx)
    · obtain ⟨sl, e1⟩ := I.base.slot b o e n hb hx
      exact ⟨sl, (hs.2 b (Nat.ne_of_lt (Nat.lt_of_lt_of_le (Heap.lt_size e) I.ok.above))).trans e1⟩
    · obtain ⟨o', e1⟩ := I.base.there b o e hx
      exact ⟨o', (hs.2 b (Nat.ne_of_lt (Nat.lt_of_lt_of_le (Heap.lt_size e) I.ok.above))).trans e1⟩
    · by_cases hj : j = i
      · subst hj
        rw [hi] at e1; cases e1
        rw [List.getElem?_set_self hiσ] at e2
        cases e2
        exact ⟨u, r, .inl ⟨hk, by simp⟩⟩
      · rw [List.getElem?_set_ne (Ne.symm hj)] at e2
        obtain ⟨u', r', q⟩ := hl j y v' e1 e2 e3
        refine ⟨u', r', ?_⟩
        rcases q with ⟨k, e⟩ | ⟨k, c, e, z⟩
        · refine .inl ⟨k, ?_⟩
          have : y ≠ x := fun e => hj (nodup_ix hN e1 (e ▸ hi))
          simp [this, e]
        · exact .inr ⟨k, c, e, z.sameBut hs (cne y c e)⟩
    · obtain ⟨w', z⟩ := I.cell y c e
      exact ⟨w', z.sameBut hs (cne y c e)⟩
    · obtain ⟨e, n, ne, nf, d⟩ := I.pin p hp
      exact ⟨(hs.2 p.1 ne).trans e, n, ne, nf, d⟩
  · have hfn : X.fn x = true := by
      rcases hf with z | z
      · exact z
      · rw [z] at hk; cases hk
    obtain ⟨c, hc⟩ := I.ok.has x (.inl hk)
    obtain ⟨w', z⟩ := I.cell x c hc
    refine wpAny_storeName_cell I.ok.kind hk hc z (fun h' hc' hs => ?_)
    obtain ⟨oc, hoc, hocd⟩ := id z
    refine h { s with heap := h' } ⟨I.ok, I.os, I.bare, ⟨fun b o e n hb hx => ?_, fun b o e n hb hx => ?_, I.base.free, fun b o e hx => ?_, I.base.tups, I.base.frzs, I.base.tbls⟩, ⟨m, hn.sameBut hs (Ne.symm (cne x c hc)), fun j y v' e1 e2 e3 => ?_⟩, fun y c' e => ?_, I.free, I.freeC, fun p hp => ?_, tracked ⟨oc, hoc, I.freeC x c hc⟩ hs, by simpa using I.len⟩ ⟨c, hs, .inr hc⟩
    · exact (hs.2 b (Nat.ne_of_lt (Nat.lt_of_lt_of_le (Heap.lt_size e) (I.ok.cab x c hfn hc)))).trans (I.base.keep b o e n hb hx)
    · obtain ⟨sl, e1⟩ := I.base.slot b o e n hb hx
      exact ⟨sl, (hs.2 b (Nat.ne_of_lt (Nat.lt_of_lt_of_le (Heap.lt_size e) (I.ok.cab x c hfn hc)))).trans e1⟩
    · obtain ⟨o', e1⟩ := I.base.there b o e hx
      exact ⟨o', (hs.2 b (Nat.ne_of_lt (Nat.lt_of_lt_of_le (Heap.lt_size e) (I.ok.cab x c hfn hc)))).trans e1⟩
    · by_cases hj : j = i
      · subst hj
        rw [hi] at e1; cases e1
        rw [List.getElem?_set_self hiσ] at e2
        cases e2
        exact ⟨u, r, .inr ⟨.inl hk, c, hc, hc'⟩⟩
      · rw [List.getElem?_set_ne (Ne.symm hj)] at e2
        obtain ⟨u', r', q⟩ := hl j y v' e1 e2 e3
        refine ⟨u', r', ?_⟩
        rcases q with q | ⟨k, c', e, z'⟩
        · exact .inl q
        · refine .inr ⟨k, c', e, z'.sameBut hs ?_⟩
          rintro rfl
          exact hj (nodup_ix hN e1 (I.ok.inj _ _ _ e hc ▸ hi))
    · by_cases hcc : c' = c
      · subst hcc; exact ⟨_, hc'⟩
      · obtain ⟨w2, z2⟩ := I.cell y c' e
        exact ⟨w2, z2.sameBut hs hcc⟩
    · obtain ⟨e, n, ne, nf, d⟩ := I.pin p hp
      refine ⟨(hs.2 p.1 ?_).trans e, n, ne, nf, d⟩
      intro q
      rw [q, hoc] at e
      have q' : oc = p.2 := Option.some.inj e
      exact d w' (by rw [← q']; exact hocd)
theorem store_ok {M : Model} {A : Around} {E : Value → Shared → Prop} {i : Nat} {x : Str} {v : V} {u : Value} {Q : Unit → Shared → Prop} (I : Inv X pins σ H s) (hN : X.N.Nodup) (hi : X.N[i]? = some x) (hx : Loc X.env.scope x) (r : RelV v u)
    (h : ∀ s', Inv X pins (σ.set i (some v)) H s' → Q () s') (hf : X.fn x = true ∨ X.env.scope.names.lookup x = some .local := by first | exact .inl rfl | exact .inr rfl | assumption) : wpAny M A (storeName X.env x u) Q E s :=
  store_ok2 I hN hi hx r (fun s' I' _ => h s' I') hf
theorem Inv.call' {s' : Shared} {ch : List Addr} (I : Inv X pins σ H s) (ho : s'.os = s.os) (u : Un (frs X.stack) ch H H' s.heap s'.heap) (hok : HOk X.prog X.w H' s'.heap) (hg : AllBare s'.gens)
    (hch : ∀ b ∈ ch, (b ∈ X.ex ∨ X.s₀.heap.objs.size ≤ b) ∧ b ≠ X.env.locals ∧ (∀ x c, X.env.cells.lookup x = some c → c ≠ b) ∧ ∀ p ∈ X.pn ++ pins, p.1 ≠ b) : Inv X pins σ H' s' := by
  obtain ⟨h', g', d', t', o'⟩ := s'
  have e : o' = s.os := ho
  subst e
  exact I.call (g' := g') (t' := t') (d' := d') u hok hg hch
end
noncomputable abbrev XK := Value → Option Addr → Hp → Prop
noncomputable abbrev St := List (Option V)
noncomputable abbrev VK := V → Hp → Prop
noncomputable abbrev TE := St → Hp → VK → Prop
noncomputable abbrev TT := St → Hp → (Bool → Hp → Prop) → Prop
noncomputable abbrev TA := St → Hp → (List V → Hp → Prop) → Prop
structure Ends where
  nx : St → Hp → Prop
  rt : VK
  bk : St → Hp → Prop := fun _ _ => False
  ct : St → Hp → Prop := fun _ _ => False
noncomputable abbrev TS := Ends → St → Hp → Prop
noncomputable def EP (X : Cx) (pins : List (Addr × Obj)) (σ : St) (Q : VK) (u : Value) (s' : Shared) : Prop := ∃ v H', Inv X pins σ H' s' ∧ RelV v u ∧ Q v H'
noncomputable def TP (X : Cx) (pins : List (Addr × Obj)) (σ : St) (Q : Bool → Hp → Prop) (b : Bool) (s' : Shared) : Prop := ∃ H', Inv X pins σ H' s' ∧ Q b H'
noncomputable def AP (X : Cx) (pins : List (Addr × Obj)) (σ : St) (Q : List V → Hp → Prop) (us : List Value) (s' : Shared) : Prop := ∃ vs H', Inv X pins σ H' s' ∧ Vals vs us ∧ Q vs H'
noncomputable def SP (X : Cx) (pins : List (Addr × Obj)) (D : Ends) (f : Flow) (s' : Shared) : Prop :=
  match f with
  | .next => ∃ σ' H', Inv X pins σ' H' s' ∧ D.nx σ' H'
  | .brk => ∃ σ' H', Inv X pins σ' H' s' ∧ D.bk σ' H'
  | .cont => ∃ σ' H', Inv X pins σ' H' s' ∧ D.ct σ' H'
  | .ret u => ∃ v σ' H', Inv X pins σ' H' s' ∧ RelV v u ∧ D.rt v H'
noncomputable def PE (X : Cx) (e : Expr) (t : TE) : Prop :=
  ∀ (pins : List (Addr × Obj)) (s : Shared) (σ : St) (H : Hp) (Q : VK), Inv X pins σ H s → t σ H Q → wpAny (model X.prog X.w) X.A (eval e X.env) (EP X pins σ Q) X.xe s
noncomputable def PT (X : Cx) (e : Expr) (t : TT) : Prop :=
  ∀ (pins : List (Addr × Obj)) (s : Shared) (σ : St) (H : Hp) (Q : Bool → Hp → Prop), Inv X pins σ H s → t σ H Q → wpAny (model X.prog X.w) X.A (isTrue e X.env (eval e X.env)) (TP X pins σ Q) X.xe s
noncomputable def PW (X : Cx) (e : Expr) (t : TT) : Prop :=
  ∀ (whole : Sem Value) (pins : List (Addr × Obj)) (s : Shared) (σ : St) (H : Hp) (Q : Bool → Hp → Prop), Inv X pins σ H s → t σ H Q → wpAny (model X.prog X.w) X.A (isTrue e X.env whole) (TP X pins σ Q) X.xe s
theorem PW.pt {X : Cx} {e : Expr} {t : TT} (h : PW X e t) : PT X e t := h _
noncomputable def PA (X : Cx) (es : List Expr) (t : TA) : Prop :=
  ∀ (pos : Pos) (pins : List (Addr × Obj)) (s : Shared) (σ : St) (H : Hp) (Q : List V → Hp → Prop), Inv X pins σ H s → t σ H Q → wpAny (model X.prog X.w) X.A (spliced (backTo pos (starEach es X.env))) (AP X pins σ Q) X.xe s
noncomputable def PS (X : Cx) (st : Stmt) (t : TS) : Prop :=
  ∀ (pins : List (Addr × Obj)) (s : Shared) (σ : St) (H : Hp) (D : Ends), Inv X pins σ H s → t D σ H → wpAny (model X.prog X.w) X.A (exec st X.env) (SP X pins D) X.xe s
noncomputable def PSs (X : Cx) (st : List Stmt) (t : TS) : Prop :=
  ∀ (pins : List (Addr × Obj)) (s : Shared) (σ : St) (H : Hp) (D : Ends), Inv X pins σ H s → t D σ H → wpAny (model X.prog X.w) X.A (execs st X.env) (SP X pins D) X.xe s
theorem thn {α : Type} {t : Sem α} {Q Q' : α → Shared → Prop} {M : Model} {A : Around} {E : Value → Shared → Prop} {s : Shared} (h : wpAny M A t Q E s) (hQ : ∀ a s, Q a s → Q' a s) : wpAny M A t Q' E s := wpAny_mono h hQ fun _ _ x => x
end L2
namespace L2
open PySem PySem.Spec PyProof.Rows
section
variable {X : Cx}
noncomputable def tVar (i : Nat) : TE := fun σ H Q => ∃ v, σ[i]? = some (some v) ∧ Q v H
noncomputable def tC (v : V) : TE := fun _ H Q => Q v H
theorem pe_var {i : Nat} {x : Str} {pos : Pos} (hN : X.N[i]? = some x) (hv : Vis X.env.scope x) (hd : (x == ("__debug__" : Str)) = false := by decide) (hcd : (x == ("__classdict__" : Str)) = false := by decide) : PE X (.Name x pos) (tVar i) := by
  intro pins s σ H Q I h
  obtain ⟨v, e, h⟩ := h
  obtain ⟨m, hn, hl⟩ := I.loc
  obtain ⟨u, r, l⟩ := hl i x v hN e hv
  have fin : EP X pins σ Q u s := ⟨v, H, I, r, h⟩
  rcases l with ⟨hk, hm⟩ | ⟨hk, c, hc, hcell⟩
  · exact wpAny_Name (wpAny_loadName_local I.ok.kind hk hn hm fin) hd
  · rcases hk with hk | hk
    · exact wpAny_Name (wpAny_loadName_cell I.ok.kind hk hc hcell fin) hd
    · exact wpAny_Name (wpAny_loadName_free I.ok.kind hk hc hcell fin hcd) hd
theorem pe_int {i j pos} : PE X (.Constant (.int i) j pos) (tC (.int i)) := fun _ _ _ H _ I h => wpAny_Constant_int ⟨.int i, H, I.tok _, ⟨_, rfl⟩, h⟩
theorem pe_bl {b j pos} : PE X (.Constant (.bool b) j pos) (tC (.bl b)) := fun _ _ _ H _ I h => Constant_bool ⟨.bl b, H, I, rfl, h⟩
theorem pe_non {j pos} : PE X (.Constant .none j pos) (tC .non) := fun _ _ _ H _ I h => Constant_none ⟨.non, H, I, rfl, h⟩
theorem pe_str {x j pos} : PE X (.Constant (.str x) j pos) (tC (.str x)) := fun _ _ _ H _ I h => Calls.Constant_str ⟨.str x, H, I.tok _, ⟨_, rfl⟩, h⟩
noncomputable def Gl (X : Cx) (x : Str) : Prop := X.env.kindOf x = some .globalImplicit
theorem ld_glob {E : Value → Shared → Prop} {pins : List (Addr × Obj)} {s : Shared} {σ : St} {H : Hp} {x : Str} {u : Value} {pos : Pos} {Q : Value → Shared → Prop} (I : Inv X pins σ H s) (hg : Gl X x) (hm : X.mg x = some u) (h : Q u s)
    (hd : (x == ("__debug__" : Str)) = false := by decide) : wpAny (model X.prog X.w) X.A (eval (.Name x pos) X.env) Q E s :=
  Calls.Name_function_global I.ok.kind hg (Calls.loadGlobal_global (by rw [I.ok.glob]; exact I.mod.glob.keeps I.bk) hm h) hd
theorem ld_blt {E : Value → Shared → Prop} {pins : List (Addr × Obj)} {s : Shared} {σ : St} {H : Hp} {x : Str} {u : Value} {pos : Pos} {Q : Value → Shared → Prop} (I : Inv X pins σ H s) (hg : Gl X x) (hm : X.mg x = none) (hv : bootBuiltins x = some u) (h : Q u s)
    (hn : x ≠ "__name__" := by decide) (hd : (x == ("__debug__" : Str)) = false := by decide) : wpAny (model X.prog X.w) X.A (eval (.Name x pos) X.env) Q E s := by
  obtain ⟨mb, h1, h2⟩ := I.mod.blt
  exact Calls.Name_function_global I.ok.kind hg (Calls.loadGlobal_builtin (by rw [I.ok.glob]; exact I.mod.glob.keeps I.bk) hm (by rw [I.ok.blt]; exact h1.keeps I.bk) ((h2 x hn).trans hv) h) hd
theorem pe_glob {x : Str} {v : V} {u : Value} {pos : Pos} (hg : Gl X x) (hm : X.mg x = some u) (r : RelV v u) (hd : (x == ("__debug__" : Str)) = false := by decide) : PE X (.Name x pos) (tC v) :=
  fun _ _ _ H _ I h => ld_glob I hg hm ⟨v, H, I, r, h⟩ hd
theorem pe_bltn {x : Str} {v : V} {u : Value} {pos : Pos} (hg : Gl X x) (hm : X.mg x = none) (hv : bootBuiltins x = some u) (r : RelV v u) (hn : x ≠ "__name__" := by decide) (hd : (x == ("__debug__" : Str)) = false := by decide) : PE X (.Name x pos) (tC v) :=
  fun _ _ _ H _ I h => ld_blt I hg hm hv ⟨v, H, I, r, h⟩ hn hd
variable {a b : Expr} {ta tb : TE} {pos : Pos}
theorem nobehind (b : Expr) {op : CmpOp} (h : op ≠ .In) (h2 : op ≠ .NotIn) : behindInMarks op b = false := by
  have e1 : (op == CmpOp.In) = false := by cases op <;> first | rfl | exact absurd rfl h
  have e2 : (op == CmpOp.NotIn) = false := by cases op <;> first | rfl | exact absurd rfl h2
  cases b <;> simp [behindInMarks, e1, e2]
noncomputable def tB (t : TE) : TT := fun σ H Q => t σ H fun x H1 => ∃ c, x = .bl c ∧ Q c H1
theorem pt_val {e : Expr} {t : TE} (h : PE X e t) (he : ∀ whole, isTrue e X.env whole = (do let v ← whole; standAt e.pos; holding [v] (truthy v)) := by intro _; rfl) : PT X e (tB t) := by
  intro pins s σ H Q I hw
  refine isTrue_plain (thn (h pins s σ H _ I hw) fun v s1 ⟨x, H1, I1, r1, q1⟩ => ?_) (he _)
  obtain ⟨d, rfl, q⟩ := q1
  cases r1
  exact wpAny_truthy_bool ⟨H1, I1, q⟩
variable {tA tB' : TT} {rest : List Expr}
noncomputable def tAnd (t u : TT) : TT := fun σ H Q => t σ H fun c H1 => if c = true then u σ H1 Q else Q false H1
noncomputable def tOr (t u : TT) : TT := fun σ H Q => t σ H fun c H1 => if c = true then Q true H1 else u σ H1 Q
noncomputable def tNot (t : TT) : TT := fun σ H Q => t σ H fun c H1 => Q (!c) H1
theorem pw_and1 (ha : PT X a tA) : PW X (.BoolOp .And [a] pos) tA := by
  intro wh pins s σ H Q I h
  refine isTrue_and (thn (ha pins s σ H Q I h) fun c s1 e => ?_)
  cases c with
  | true => exact isTrue_and_nil e
  | false => exact e
theorem pw_or1 (ha : PT X a tA) : PW X (.BoolOp .Or [a] pos) tA := by
  intro wh pins s σ H Q I h
  refine isTrue_or (thn (ha pins s σ H Q I h) fun c s1 e => ?_)
  cases c with
  | false => exact isTrue_or_nil e
  | true => exact e
theorem pw_and (ha : PT X a tA) (hb : PW X (.BoolOp .And (b :: rest) pos) tB') : PW X (.BoolOp .And (a :: b :: rest) pos) (tAnd tA tB') := by
  intro wh pins s σ H Q I h
  refine isTrue_and (thn (ha pins s σ H _ I h) fun c s1 ⟨H1, I1, q1⟩ => ?_)
  cases c with
  | true => exact hb wh pins s1 σ H1 Q I1 q1
  | false => exact ⟨H1, I1, q1⟩
theorem pw_or (ha : PT X a tA) (hb : PW X (.BoolOp .Or (b :: rest) pos) tB') : PW X (.BoolOp .Or (a :: b :: rest) pos) (tOr tA tB') := by
  intro wh pins s σ H Q I h
  refine isTrue_or (thn (ha pins s σ H _ I h) fun c s1 ⟨H1, I1, q1⟩ => ?_)
  cases c with
  | true => exact ⟨H1, I1, q1⟩
  | false => exact hb wh pins s1 σ H1 Q I1 q1
theorem pt_not (ha : PT X a tA) : PT X (.UnaryOp .Not a pos) (tNot tA) := by
  intro pins s σ H Q I h
  exact isTrue_not (ha pins s σ H (fun c H1 => Q (!c) H1) I h)
noncomputable def tIf (t : TT) (ta tb : TE) : TE := fun σ H Q => t σ H fun c H1 => if c = true then ta σ H1 Q else tb σ H1 Q
theorem pe_ifExp {c : Expr} (hc : PT X c tA) (ha : PE X a ta) (hb : PE X b tb) : PE X (.IfExp c a b pos) (tIf tA ta tb) := by
  intro pins s σ H Q I h
  refine wpAny_IfExp (thn (hc pins s σ H _ I h) fun d s1 ⟨H1, I1, q1⟩ => ?_)
  cases d with
  | true => exact ha pins s1 σ H1 Q I1 q1
  | false => exact hb pins s1 σ H1 Q I1 q1
end
end L2
namespace L2
open PySem PySem.Spec PyProof.Rows
noncomputable def SqL (K : PySem.W.Frag) (H : Hp) (a : Addr) (xs : List V) : Prop :=
  Rd H a (.lst xs) ∨
    ∃ (o : Obj) (its : Array Value) (n : Nat), K.lookup a = some o ∧ o.cls = .type "list" ∧ o.dict = none ∧ o.data = .seq its n ∧ its.size ≤ sizeLine ∧ Vals xs its.toList
noncomputable def SqT (K : PySem.W.Frag) (H : Hp) (a : Addr) (xs : List V) : Prop :=
  Rd H a (.tup xs) ∨
    ∃ (o : Obj) (its : Array Value) (n : Nat), K.lookup a = some o ∧ o.cls = .type "tuple" ∧ o.data = .seq its n ∧ its.size ≤ sizeLine ∧ Vals xs its.toList
noncomputable def absV : Value → Option V
  | .none => some .non
  | .bool b => some (.bl b)
  | .int i _ => some (.int i)
  | .str x _ => some (.str x)
  | .bytes b _ => some (.byt b)
  | .float b _ => some (.flt b)
  | .ref a => some (.ref a)
  | .type n => some (.ty n)
  | _ => none
theorem RelV.abs {x : V} {u : Value} (r : RelV x u) : absV u = some x := by
  cases x with
  | non => cases r; rfl
  | bl _ => cases r; rfl
  | int _ => obtain ⟨t, rfl⟩ := r; rfl
  | str _ => obtain ⟨t, rfl⟩ := r; rfl
  | byt _ => obtain ⟨t, rfl⟩ := r; rfl
  | flt _ => obtain ⟨t, rfl⟩ := r; rfl
  | ref _ => cases r; rfl
  | ty _ => cases r; rfl
theorem RelV.inj {x y : V} {u : Value} (r : RelV x u) (q : RelV y u) : x = y := Option.some.inj (r.abs.symm.trans q.abs)
theorem Vals.inj : ∀ {xs ys : List V} {us : List Value}, Vals xs us → Vals ys us → xs = ys
  | _, _, _, .nil, .nil => rfl
  | _, _, _, .cons r t, .cons r' t' => by rw [r.inj r', Vals.inj t t']
section
variable {X : Cx} {pins : List (Addr × Obj)} {σ : St} {H : Hp} {s : Shared} {a : Addr} {xs ys : List V}
theorem SqL.of {K : PySem.W.Frag} (h : H a = some (.lst xs)) : SqL K H a xs := .inl (.inl h)
theorem SqT.of {K : PySem.W.Frag} (h : H a = some (.tup xs)) : SqT K H a xs := .inl (.inl h)
theorem Inv.list (I : Inv X pins σ H s) (h : SqL X.K H a xs) : ∃ its : List Value, Vals xs its ∧ PlainL s.heap a its.toArray ∧ xs.length ≤ sizeLine := by
  rcases h with h | ⟨o, its, n, hk, hc, hd, hs, hz, r⟩
  · obtain ⟨z, its, n, r, e⟩ := h.ok I.hok
    exact ⟨its, r, ⟨_, n, e, rfl, rfl, rfl⟩, z⟩
  · refine ⟨its.toList, r, ⟨o, n, I.kIn a o hk, hc, hd, by simpa using hs⟩, ?_⟩
    have e := r.length
    simp only [Array.length_toList] at e
    omega
theorem Inv.tuple (I : Inv X pins σ H s) (h : SqT X.K H a xs) : ∃ its : List Value, Vals xs its ∧ IsTup s.heap a its.toArray ∧ xs.length ≤ sizeLine := by
  rcases h with h | ⟨o, its, n, hk, hc, hs, hz, r⟩
  · obtain ⟨z, its, r, p⟩ := h.ok I.hok
    exact ⟨its, r, p, z⟩
  · refine ⟨its.toList, r, ⟨o, I.kIn a o hk, hc, n, by simpa using hs⟩, ?_⟩
    have e := r.length
    simp only [Array.length_toList] at e
    omega
theorem Inv.list_inj (I : Inv X pins σ H s) (h : SqL X.K H a xs) (h' : SqL X.K H a ys) : xs = ys := by
  obtain ⟨its, r, ⟨o, n, e, _, _, d⟩, _⟩ := I.list h
  obtain ⟨its', r', ⟨o', n', e', _, _, d'⟩, _⟩ := I.list h'
  rw [e] at e'; cases e'
  rw [d] at d'
  injection d' with d1 _
  have : its = its' := by simpa using congrArg Array.toList d1
  subst this
  exact r.inj r'
end
noncomputable abbrev Cx.wish (X : Cx) (E : Value → Shared → Prop) : Cx := { X with xe := E }
noncomputable abbrev Cx.nox (X : Cx) : Cx := X.wish fun _ _ => False
theorem Cx.Ok.wish {X : Cx} (ok : X.Ok) (E : Value → Shared → Prop) : (X.wish E).Ok :=
  ⟨ok.mod, ok.kind, ok.glob, ok.blt, ok.above, ok.inj, ok.has, ok.cab, ok.hd, ok.frames, ok.stk, ok.exf, ok.bs, ok.bsz, ok.noex, ok.exfs, ok.funs, ok.frf⟩
theorem Cx.Ok.unwish {X : Cx} {E : Value → Shared → Prop} (ok : (X.wish E).Ok) : X.Ok :=
  ⟨ok.mod, ok.kind, ok.glob, ok.blt, ok.above, ok.inj, ok.has, ok.cab, ok.hd, ok.frames, ok.stk, ok.exf, ok.bs, ok.bsz, ok.noex, ok.exfs, ok.funs, ok.frf⟩
section
variable {X : Cx} {pins : List (Addr × Obj)} {σ : St} {H : Hp} {s : Shared} {E : Value → Shared → Prop}
theorem Inv.wish (I : Inv X pins σ H s) (E : Value → Shared → Prop) : Inv (X.wish E) pins σ H s := ⟨I.ok.wish E, I.os, I.bare, I.base, I.loc, I.cell, I.free, I.freeC, I.pin, I.hok, I.len⟩
theorem Inv.unwish (I : Inv (X.wish E) pins σ H s) : Inv X pins σ H s := ⟨I.ok.unwish, I.os, I.bare, I.base, I.loc, I.cell, I.free, I.freeC, I.pin, I.hok, I.len⟩
theorem SP.unwish {D : Ends} {f : Flow} {s' : Shared} (h : SP (X.wish E) pins D f s') : SP X pins D f s' := by
  cases f with
  | next => obtain ⟨σ', H', I, q⟩ := h; exact ⟨σ', H', I.unwish, q⟩
  | brk => obtain ⟨σ', H', I, q⟩ := h; exact ⟨σ', H', I.unwish, q⟩
  | cont => obtain ⟨σ', H', I, q⟩ := h; exact ⟨σ', H', I.unwish, q⟩
  | ret u => obtain ⟨v, σ', H', I, r, q⟩ := h; exact ⟨v, σ', H', I.unwish, r, q⟩
theorem PE.nox {e : Expr} {t : TE} (h : PE X.nox e t) : PE X e t := fun pins s σ H Q I hw =>
  wpAny_mono (h pins s σ H Q (I.wish _) hw) (fun _ _ ⟨v, H', I', r, q⟩ => ⟨v, H', I'.unwish, r, q⟩) fun _ _ z => False.elim z
theorem PT.nox {e : Expr} {t : TT} (h : PT X.nox e t) : PT X e t := fun pins s σ H Q I hw =>
  wpAny_mono (h pins s σ H Q (I.wish _) hw) (fun _ _ ⟨H', I', q⟩ => ⟨H', I'.unwish, q⟩) fun _ _ z => False.elim z
theorem PSs.nox {st : List Stmt} {t : TS} (h : PSs X.nox st t) : PSs X st t := fun pins s σ H D I hw =>
  wpAny_mono (h pins s σ H D (I.wish _) hw) (fun _ _ q => q.unwish) fun _ _ z => False.elim z
end
section
variable {X : Cx} {st : Stmt} {rest : List Stmt} {t u : TS} {e : Expr} {te : TE} {pos : Pos}
noncomputable def tNext : TS := fun D σ H => D.nx σ H
noncomputable def tSeq (t u : TS) : TS := fun D σ H => t { D with nx := u D } σ H
theorem pss_nil : PSs X [] tNext := fun _ _ σ H _ I h => wpAny_execs_nil ⟨σ, H, I, h⟩
theorem pss_cons (h1 : PS X st t) (h2 : PSs X rest u) : PSs X (st :: rest) (tSeq t u) := by
  intro pins s σ H D I h
  refine wpAny_execs_cons (thn (h1 pins s σ H { D with nx := u D } I h) fun f s1 q => ?_)
  cases f with
  | next =>
    obtain ⟨σ', H', I', q⟩ := q
    exact h2 pins s1 σ' H' D I' q
  | ret v => exact q
  | brk => exact q
  | cont => exact q
theorem pss_one (h1 : PS X st t) : PSs X [st] t := by
  intro pins s σ H D I h
  refine wpAny_execs_cons (thn (h1 pins s σ H D I h) fun f s1 q => ?_)
  cases f with
  | next => exact wpAny_execs_nil q
  | ret v => exact q
  | brk => exact q
  | cont => exact q
theorem Inv.quiet {pins : List (Addr × Obj)} {σ : St} {H : Hp} {s : Shared} (I : Inv X pins σ H s) : interactive X.env = false := by simp [interactive, I.ok.kind]
noncomputable def tDrop (te : TE) : TS := fun D σ H => te σ H fun _ H1 => D.nx σ H1
theorem ps_expr (he : PE X e te) (hs : swapsWith e none pos.line X.env = pure false := by rfl) : PS X (.Expr e pos) (tDrop te) := by
  intro pins s σ H D I h
  exact wpAny_Expr_any (thn (he pins s σ H _ I h) fun v s1 ⟨x, H1, I1, r1, q1⟩ => ⟨σ, H1, I1, q1⟩) I.quiet hs
noncomputable def tRet (te : TE) : TS := fun D σ H => te σ H D.rt
theorem ps_ret (he : PE X e te) : PS X (.Return (some e) pos) (tRet te) := by
  intro pins s σ H D I h
  exact wpAny_Return_some (thn (he pins s σ H _ I h) fun v s1 ⟨x, H1, I1, r1, q1⟩ => ⟨x, σ, H1, I1, r1, q1⟩)
noncomputable def tIfS (c : TT) (t u : TS) : TS := fun D σ H => c σ H fun b H1 => if b = true then t D σ H1 else u D σ H1
theorem ps_if {c : Expr} {a b : List Stmt} {tc : TT} (hc : PT X c tc) (ha : PSs X a t) (hb : PSs X b u) : PS X (.If c a b pos) (tIfS tc t u) := by
  intro pins s σ H D I h
  refine wpAny_If (thn (hc pins s σ H _ I h) fun d s1 ⟨H1, I1, q1⟩ => ?_)
  cases d with
  | true => exact ha pins s1 σ H1 D I1 q1
  | false => exact hb pins s1 σ H1 D I1 q1
end
noncomputable abbrev TG := V → St → Hp → (St → Hp → Prop) → Prop
noncomputable abbrev TGs := List V → St → Hp → (St → Hp → Prop) → Prop
noncomputable def PG (X : Cx) (target : Expr) (t : TG) : Prop :=
  ∀ (pins : List (Addr × Obj)) (s : Shared) (σ : St) (H : Hp) (v : V) (u : Value) (Q : St → Hp → Prop), Inv X pins σ H s → RelV v u → t v σ H Q →
    wpAny (model X.prog X.w) X.A (assign target X.env u) (fun _ s' => ∃ σ' H', Inv X pins σ' H' s' ∧ Q σ' H') X.xe s
noncomputable def PGs (X : Cx) (ts : List Expr) (t : TGs) : Prop :=
  ∀ (pins : List (Addr × Obj)) (s : Shared) (σ : St) (H : Hp) (vs : List V) (us : List Value) (Q : St → Hp → Prop), Inv X pins σ H s → Vals vs us → t vs σ H Q →
    wpAny (model X.prog X.w) X.A (assignInOrder ((assignEach ts X.env).map (·.2)) us) (fun _ s' => ∃ σ' H', Inv X pins σ' H' s' ∧ Q σ' H') X.xe s
section
variable {X : Cx} {pos : Pos}
noncomputable def gName (i : Nat) : TG := fun v σ H Q => Q (σ.set i (some v)) H
theorem pg_name {i : Nat} {x : Str} (hN : X.N.Nodup) (hi : X.N[i]? = some x) (hx : Loc X.env.scope x) (hf : X.fn x = true ∨ X.env.scope.names.lookup x = some .local := by first | exact .inl rfl | exact .inr rfl | assumption) : PG X (.Name x pos) (gName i) := by
  intro pins s σ H v u Q I r h
  exact wpAny_assign_Name (store_ok I hN hi hx r (fun s' I' => ⟨_, H, I', h⟩) hf)
noncomputable def gNil : TGs := fun vs σ H Q => vs = [] ∧ Q σ H
noncomputable def gCons (t : TG) (u : TGs) : TGs := fun vs σ H Q => ∃ v r, vs = v :: r ∧ t v σ H fun σ' H' => u r σ' H' Q
theorem pgs_nil : PGs X [] gNil := by
  intro pins s σ H vs us Q I r h
  obtain ⟨e, h⟩ := h
  subst e
  cases r
  exact assignInOrder_nil ⟨σ, H, I, h⟩
theorem pgs_cons {e : Expr} {es : List Expr} {t : TG} {u : TGs} (h1 : PG X e t) (h2 : PGs X es u)
    (hs : (assignEach (e :: es) X.env).map (·.2) = assign e X.env :: (assignEach es X.env).map (·.2) := by rfl) : PGs X (e :: es) (gCons t u) := by
  intro pins s σ H vs us Q I r h
  obtain ⟨v, vr, e1, h⟩ := h
  subst e1
  cases r with
  | cons r rr =>
    rw [hs]
    refine assignInOrder_cons (thn (h1 pins s σ H _ _ _ I r h) fun _ s1 ⟨σ1, H1, I1, q1⟩ => ?_)
    exact h2 pins s1 σ1 H1 _ _ Q I1 rr q1
noncomputable def gTup (K : PySem.W.Frag) (n : Nat) (t : TGs) : TG := fun v σ H Q => ∃ a xs, v = .ref a ∧ SqT K H a xs ∧ xs.length = n ∧ t xs σ H Q
theorem pg_tup {es : List Expr} {k : Nat} {t : TGs} {n : Nat} (hc : X.calm = true) (h : PGs X es t)
    (hn : (assignEach es X.env).length = n := by rfl) (hst : (assignEach es X.env).findIdx? (·.1) = none := by rfl) : PG X (.Tuple es k pos) (gTup X.K n t) := by
  intro pins s σ H v u Q I r hw
  obtain ⟨a, xs, e1, hq, hl, hw⟩ := hw
  subst e1
  cases r
  obtain ⟨its, rv, ht, hz⟩ := I.tuple hq
  refine assign_Tuple_tuple (I.ok.hd hc) ht (by simp [hn, ← hl, rv.length]) hst fun h' hx => ?_
  have I1 : Inv X pins σ H { s with heap := h' } := I.kept (t' := s.toks) fun b o e => hx b o (Nat.ne_of_lt (Heap.lt_size e)) e
  exact h pins _ σ H xs _ Q I1 (by simpa using rv) hw
noncomputable def tAsg (te : TE) (g : TG) : TS := fun D σ H => te σ H fun x H1 => g x σ H1 D.nx
theorem ps_asg {tg e : Expr} {te : TE} {g : TG} (he : PE X e te) (hg : PG X tg g) (hs : swapsWithSole [tg] e pos.line X.env = pure false := by rfl) (hw : swappedStores [tg] e X.env = pure none := by rfl)
    (h1 : (assignEach [tg] X.env).map (·.2) = [assign tg X.env] := by rfl) : PS X (.Assign [tg] e pos) (tAsg te g) := by
  intro pins s σ H D I h
  refine wpAny_Assign_stores (thn (he pins s σ H _ I h) fun v s1 ⟨x, H1, I1, r1, q1⟩ => ?_) hs hw
  rw [h1]
  exact thn (hg pins s1 σ H1 x v _ I1 r1 q1) fun _ s2 q => q
theorem ps_set {i : Nat} {x : Str} {e : Expr} {te : TE} {pos' : Pos} (hN : X.N.Nodup) (hi : X.N[i]? = some x) (hx : Loc X.env.scope x) (he : PE X e te) (hs : swapsWith e (some (.Name x pos')) pos.line X.env = pure false := by rfl) (hf : X.fn x = true ∨ X.env.scope.names.lookup x = some .local := by first | exact .inl rfl | exact .inr rfl | assumption) :
    PS X (.Assign [.Name x pos'] e pos) (tAsg te (gName i)) := by
  intro pins s σ H D I h
  refine wpAny_Assign_Name (thn (he pins s σ H _ I h) fun v s1 ⟨y, H1, I1, r1, q1⟩ => ?_) hs
  exact store_ok I1 hN hi hx r1 (fun s2 I2 => ⟨_, H1, I2, q1⟩) hf
noncomputable def tPar (i j : Nat) (ta : TA) : TS := fun D σ H => ta σ H fun vs H1 => ∃ v w, vs = [v, w] ∧ D.nx ((σ.set i (some v)).set j (some w)) H1
theorem ps_par {i j : Nat} {x y : Str} {a b : Expr} {ta : TA} {px py pt : Pos} {kt k2 pt2} (hc : X.calm = true) (hN : X.N.Nodup) (hi : X.N[i]? = some x) (hj : X.N[j]? = some y) (hij : i ≠ j)
    (hx : X.env.scope.names.lookup x = some .local) (hy : X.env.scope.names.lookup y = some .local) (ha : PA X [a, b] ta)
    (hw : swappedStores [.Tuple [.Name x px, .Name y py] kt pt] (.Tuple [a, b] k2 pt2) X.env = pure (some [x, y]))
    (hs : swapsWithSole [.Tuple [.Name x px, .Name y py] kt pt] (.Tuple [a, b] k2 pt2) pos.line X.env = pure false := by rfl) :
    PS X (.Assign [.Tuple [.Name x px, .Name y py] kt pt] (.Tuple [a, b] k2 pt2) pos) (tPar i j ta) := by
  intro pins s σ H D I h
  rw [exec_Assign_arm]
  refine wpAny_bind (wpAny_standAt ?_)
  rw [hs]
  refine wpAny_bind (wpAny_pure ?_)
  rw [if_neg (by decide)]
  refine wpAny_bind (Tuple_ (thn (ha _ pins s σ H _ I h) fun us s1 ⟨vs, H1, I1, r1, q1⟩ => ?_))
  obtain ⟨v, w, e1, q1⟩ := q1
  subst e1
  obtain ⟨u1, u2, rfl, rv, rw'⟩ : ∃ u1 u2, us = [u1, u2] ∧ RelV v u1 ∧ RelV w u2 := by
    cases r1 with
    | cons p q =>
      cases q with
      | cons p' q' =>
        cases q'
        exact ⟨_, _, rfl, p, p'⟩
  refine wpAny_newObj_type ?_ (by show 2 ≤ sizeLine; decide)
  have I2 : Inv X pins σ H1 { s1 with heap := s1.heap.push { cls := .type "tuple", data := .seq [u1, u2].toArray } } := I1.kept (t' := s1.toks) fun b o e => Heap.get?_push_of_some _ e
  rw [hw]
  refine wpAny_bind (wpAny_pure ?_)
  show wpAny (model X.prog X.w) X.A (do rule "assign.swapped-stores"; let items ← unpackItems (.ref s1.heap.objs.size) 2 none; assignInOrder [fun v => bindName X.env y v, fun v => bindName X.env x v] items.reverse; pure Flow.next) _ _ _
  refine wpAny_bind (wpAny_rule (wpAny_bind (unpackItems_tuple (items := #[u1, u2]) (I.ok.hd hc) (IsTup.new s1.heap _) fun h' hx' => ?_)))
  have I3 := I2.kept (h' := h') (t' := s1.toks) fun b o e => hx' b o (Nat.ne_of_lt (Heap.lt_size e)) e
  show wpAny _ _ (assignInOrder [fun v => bindName X.env y v, fun v => bindName X.env x v] [u2, u1] >>= fun _ => pure Flow.next) _ _ _
  refine wpAny_bind (assignInOrder_cons (wpAny_bindName (store_ok I3 hN hj (.inl hy) rw' (fun s2 I4 => ?_) (.inr hy))))
  refine assignInOrder_cons (wpAny_bindName (store_ok I4 hN hi (.inl hx) rv (fun s3 I5 => assignInOrder_nil (wpAny_pure ?_)) (.inr hx)))
  rw [List.set_comm _ _ (Ne.symm hij)] at I5
  exact ⟨_, H1, I5, q1⟩
end
section
variable {X : Cx} {pos : Pos}
noncomputable def tWhile (c : TT) (tb : TS) : TS := fun D σ H => ∃ W : Nat → St → Hp → Prop, (∃ m, W m σ H) ∧ ∀ m σ H, W m σ H →
  c σ H fun b H1 => if b = true then ∃ N : St → Hp → Prop, (∀ σ' H', N σ' H' → ∃ m', m' < m ∧ W m' σ' H') ∧ tb { D with nx := N, ct := N, bk := D.nx } σ H1 else D.nx σ H1
theorem ps_while {c : Expr} {body : List Stmt} {tc : TT} {tb : TS} (hp : PassesOwn (model X.prog X.w) X.A X.env X.xe) (hc : PT X c tc) (hb : PSs X body tb) : PS X (.While c body [] pos) (tWhile tc tb) := by
  intro pins s σ H D I h
  obtain ⟨W, ⟨m0, w0⟩, turn⟩ := h
  refine wpAny_While (codeAny_whileLoop (fun n s' => ∃ σ' H', Inv X pins σ' H' s' ∧ W n σ' H') ?_ m0 ⟨σ, H, I, w0⟩)
  rintro n s1 ⟨σ1, H1, I1, w1⟩
  refine wpAny_passesOwn hp (thn (hc pins s1 σ1 H1 _ I1 (turn n σ1 H1 w1)) fun b s2 ⟨H2, I2, q2⟩ => ?_)
  cases b with
  | true =>
    obtain ⟨N, hN, q2⟩ := q2
    rw [if_pos rfl]
    refine wpAny_passesOwn hp (thn (hb pins s2 σ1 H2 _ I2 q2) fun f s3 q3 => ?_)
    cases f with
    | next =>
      obtain ⟨σ3, H3, I3, n3⟩ := q3
      obtain ⟨m', hm, w3⟩ := hN σ3 H3 n3
      exact ⟨m', hm, σ3, H3, I3, w3⟩
    | cont =>
      obtain ⟨σ3, H3, I3, n3⟩ := q3
      obtain ⟨m', hm, w3⟩ := hN σ3 H3 n3
      exact ⟨m', hm, σ3, H3, I3, w3⟩
    | brk => exact q3
    | ret v => exact q3
  | false =>
    rw [if_neg Bool.false_ne_true]
    exact wpAny_execs_nil ⟨σ1, H2, I2, q2⟩
end
structure It where
  go : Nat → Hp → Prop
  yld : Nat → Hp → V → Hp → Prop
  stop : Nat → Hp → Prop
noncomputable def FpOk (X : Cx) (pins : List (Addr × Obj)) (H : Hp) (b : Addr) : Prop :=
  H b = none ∧ b ≠ X.env.locals ∧ b ∉ X.fs ∧ (b ∈ X.ex ∨ X.s₀.heap.objs.size ≤ b) ∧ (∀ x c, X.env.cells.lookup x = some c → c ≠ b) ∧ ∀ p ∈ X.pn ++ pins, p.1 ≠ b
theorem Inv.fpOk {X : Cx} {pins : List (Addr × Obj)} {σ : St} {H H' : Hp} {s : Shared} {b : Addr} (I : Inv X pins σ H s) (hb : s.heap.objs.size ≤ b) (hn : H' b = none) : FpOk X pins H' b := by
  refine ⟨hn, Nat.ne_of_gt (Nat.lt_of_lt_of_le I.lt hb), I.nofs hb, .inr (Nat.le_trans I.sz hb), fun x c e z => ?_, fun p hp z => ?_⟩
  · obtain ⟨v, q⟩ := I.cell x c e
    exact absurd (Nat.lt_of_lt_of_le q.lt (by rw [z]; exact hb)) (Nat.lt_irrefl _)
  · exact absurd (Nat.lt_of_lt_of_le (Heap.lt_size (I.pin p hp).1) (by rw [z]; exact hb)) (Nat.lt_irrefl _)
structure Turn (P : Program) (w : World) (K : PySem.W.Frag) (tg : Expr) (J : It) (fp : List Addr) (it : Addr) (tn : Nat → Heap → Prop) : Prop where
  mem : it ∈ fp
  obj : ∀ i h, tn i h → ∀ b ∈ fp, ∃ o, h.get? b = some o ∧ ∀ v, o.data ≠ .cell v
  keep : ∀ i h h', tn i h → (∀ b ∈ fp, ∀ o, h.get? b = some o → h'.get? b = some o) → tn i h'
  item : ∀ (X : Cx), X.prog = P → X.w = w → X.K = K → X.calm = true → ∀ (i : Nat) (pins : List (Addr × Obj)) (s : Shared) (σ : St) (H : Hp) (E : Value → Shared → Prop), Inv X pins σ H s → (∀ b ∈ fp, FpOk X pins H b) → tn i s.heap → J.go i H →
    wpAny (model P w) X.A (pyNext (.ref it)) (fun r s1 => ∃ u, r = some u ∧
      wpAny (model P w) X.A (letOwnedTupleGo tg (.ref it) u) (fun _ s2 => ∃ x H', Inv X pins σ H' s2 ∧ RelV x u ∧ J.yld i H x H' ∧ tn (i + 1) s2.heap ∧ ∀ b ∈ fp, H' b = none) E s1) E s
  done : ∀ (X : Cx), X.prog = P → X.w = w → X.K = K → X.calm = true → ∀ (i : Nat) (pins : List (Addr × Obj)) (s : Shared) (σ : St) (H : Hp) (E : Value → Shared → Prop), Inv X pins σ H s → (∀ b ∈ fp, FpOk X pins H b) → tn i s.heap → J.stop i H →
    wpAny (model P w) X.A (pyNext (.ref it)) (fun r s1 => r = none ∧ Inv X pins σ H s1) E s
  self : ∀ (A : Around) (i : Nat) (s : Shared) (Q : Value → Shared → Prop) (E : Value → Shared → Prop), tn i s.heap → Q (.ref it) s → wpAny (model P w) A (pyIter (.ref it)) Q E s
noncomputable abbrev TI := St → Hp → (It → Hp → Prop) → Prop
noncomputable def PIE (X : Cx) (pins : List (Addr × Obj)) (σ : St) (tg : Expr) (R : It → Hp → Prop) (itv : Value) (s2 : Shared) : Prop :=
  ∃ (it : Addr) (fp : List Addr) (tn : Nat → Heap → Prop) (J : It) (H' : Hp), itv = .ref it ∧ Inv X pins σ H' s2 ∧ Turn X.prog X.w X.K tg J fp it tn ∧ tn 0 s2.heap ∧ (∀ b ∈ fp, FpOk X pins H' b) ∧ R J H'
noncomputable def PI (X : Cx) (tg iter : Expr) (wi : TI) : Prop :=
  ∀ (pins : List (Addr × Obj)) (s : Shared) (σ : St) (H : Hp) (R : It → Hp → Prop), Inv X pins σ H s → wi σ H R →
    wpAny (model X.prog X.w) X.A (eval iter X.env) (fun v s1 => wpAny (model X.prog X.w) X.A (pyIter v) (PIE X pins σ tg R) X.xe s1) X.xe s
theorem go_of {M : Model} {A : Around} {E : Value → Shared → Prop} {s : Shared} {tg : Expr} {it : Addr} {u : Value} {o : Obj} {n : String} {vs : Array Value} {Q : Unit → Shared → Prop} (ho : s.heap.get? it = some o) (hc : o.cls = .type n) (hd : o.data = .fields vs)
    (hn : ["enumerate", "zip", "dict_itemiterator", "dict_reverseitemiterator", "odict_iterator", "itertools.zip_longest", "itertools.pairwise"].contains n = false) (hQ : Q () s) : wpAny M A (letOwnedTupleGo tg (.ref it) u) Q E s := by
  unfold letOwnedTupleGo
  cases tg <;> first
    | exact wpAny_pure hQ
    | (cases u <;> first
        | exact wpAny_pure hQ
        | (refine wpAny_bind (wpAny_load ho ?_)
           rw [hc, hd]
           show wpAny M A (if (["enumerate", "zip", "dict_itemiterator", "dict_reverseitemiterator", "odict_iterator", "itertools.zip_longest", "itertools.pairwise"].contains n && vs[0]? == some (rawInt _)) = true then _ else _) Q E s
           rw [if_neg (by intro h; rw [hn, Bool.false_and] at h; cases h)]
           exact wpAny_pure hQ))
noncomputable def Itl (K : PySem.W.Frag) (a : Addr) : It :=
  ⟨fun i H => ∃ xs x, SqL K H a xs ∧ xs[i]? = some x, fun i H x H' => H' = H ∧ ∀ xs, SqL K H a xs → xs[i]? = some x, fun i H => ∃ xs, SqL K H a xs ∧ xs.length ≤ i⟩
noncomputable def Itr (lo : Int) (n : Nat) : It := ⟨fun i _ => i < n, fun i H x H' => H' = H ∧ x = .int (lo + i), fun i _ => n ≤ i⟩
theorem turn_list {P : Program} {w : World} {K : PySem.W.Frag} {tg : Expr} (a it : Addr) : Turn P w K tg (Itl K a) [it] it (fun i h => h.IsListIter it a i) where
  mem := by simp
  obj := fun i h st b hb => by
    have e : b = it := by simpa using hb
    subst e
    obtain ⟨o, e, c, d⟩ := st
    exact ⟨o, e, fun v z => by rw [d] at z; cases z⟩
  keep := fun i h h' st k => st.at fun o e => k it (by simp) o e
  item := by
    intro X hP hw hK hc i pins s σ H E I hf st hg
    subst hP hw hK
    obtain ⟨xs, x, hq, hx⟩ := hg
    obtain ⟨its, rv, p, hz⟩ := I.list hq
    obtain ⟨u, hu, ru⟩ := rv.get hx
    obtain ⟨f0, f1, f2, f3, f4, f5⟩ := hf it (by simp)
    refine wpAny_pyNext_list_item st p.isList (x := u) (by simpa using hu) fun h' st' sb => ?_
    have I1 : Inv X pins σ H { s with heap := h' } := I.turned (t' := s.toks) (fun b o hb e => (sb.2 b hb).trans e) f0 f1 f3 f4 f5
    obtain ⟨o, e, c, d⟩ := id st'
    exact ⟨u, rfl, go_of (s := { s with heap := h' }) e c d (by decide) ⟨x, H, I1, ru, ⟨rfl, fun ys hy => by rw [I.list_inj hy hq]; exact hx⟩, st', fun b hb => (hf b hb).1⟩⟩
  done := by
    intro X hP hw hK hc i pins s σ H E I hf st hg
    subst hP hw hK
    obtain ⟨xs, hq, hx⟩ := hg
    obtain ⟨its, rv, p, hz⟩ := I.list hq
    obtain ⟨f0, f1, f2, f3, f4, f5⟩ := hf it (by simp)
    have hl := rv.length
    exact wpAny_pyNext_list_end (I.ok.hd hc) st p.isList (by simp; omega) fun h' eb => ⟨rfl, I.turned (t' := s.toks) (fun b o hb e => eb b o hb e) f0 f1 f3 f4 f5⟩
  self := fun _ _ _ _ _ st h => wpAny_pyIter_listiter st h
theorem turn_range {P : Program} {w : World} {K : PySem.W.Frag} {tg : Expr} (it : Addr) (lo : Int) (n : Nat) : Turn P w K tg (Itr lo n) [it] it (fun i h => IsRangeIter h it (lo + (i : Nat) * 1) ((n : Int) - (i : Nat)) 1) where
  mem := by simp
  obj := fun i h st b hb => by
    have e : b = it := by simpa using hb
    subst e
    exact ⟨_, st, fun v z => by
      have z' : Data.fields _ = Data.cell v := z
      cases z'⟩
  keep := fun i h h' st k => k it (by simp) _ st
  item := by
    intro X hP hw hK hc i pins s σ H E I hf st hg
    subst hP hw hK
    obtain ⟨f0, f1, f2, f3, f4, f5⟩ := hf it (by simp)
    have W := Walks.range (prog := X.prog) (w := X.w) (I.ok.hd hc) it lo 1 n
    refine W.item i s _ _ hg st fun v h' tk hv st' kk => ?_
    obtain ⟨t, rfl⟩ := hv
    have I1 : Inv X pins σ H { s with heap := h', toks := tk } := I.turned (fun b o hb e => kk b o (by simpa using hb) e) f0 f1 f3 f4 f5
    refine ⟨_, rfl, go_of (s := { s with heap := h', toks := tk }) (n := "range_iterator") st' rfl rfl (by decide) ⟨.int (lo + i), H, I1, ⟨t, ?_⟩, ⟨rfl, rfl⟩, st', fun b hb => (hf b hb).1⟩⟩
    rw [Int.mul_one]
  done := by
    intro X hP hw hK hc i pins s σ H E I hf st hg
    subst hP hw hK
    obtain ⟨f0, f1, f2, f3, f4, f5⟩ := hf it (by simp)
    exact wpAny_pyNext_range_end (I.ok.hd hc) st (by have : n ≤ i := hg; omega) fun h' eb => ⟨rfl, I.turned (t' := s.toks) (fun b o hb e => eb b o hb e) f0 f1 f3 f4 f5⟩
  self := fun _ _ _ _ _ st h => wpAny_pyIter_rangeiter st h
end L2
namespace L2
open PySem PySem.Spec PyProof.Rows
section
variable {X : Cx} {tg : Expr}
noncomputable def iList (K : PySem.W.Frag) (tl : TE) : TI := fun σ H R => tl σ H fun x H1 => ∃ a, x = .ref a ∧ (∃ xs, SqL K H1 a xs) ∧ R (Itl K a) H1
theorem pi_list {l : Expr} {tl : TE} (hl : PE X l tl) : PI X tg l (iList X.K tl) := by
  intro pins s σ H R I h
  refine thn (hl pins s σ H _ I h) fun v s1 ⟨x, H1, I1, r1, q1⟩ => ?_
  obtain ⟨a, e, ⟨xs, hq⟩, q⟩ := q1
  subst e
  cases r1
  obtain ⟨its, rv, p, hz⟩ := I1.list hq
  refine wpAny_pyIter_list p.isList ?_
  refine ⟨s1.heap.objs.size, [s1.heap.objs.size], _, _, H1, rfl, I1.kept (t' := s1.toks) fun b o e => Heap.get?_push_of_some _ e, turn_list a _, ⟨_, Heap.get?_push_size _ rfl, rfl, rfl⟩, fun b hb => ?_, q⟩
  have e : b = s1.heap.objs.size := by simpa using hb
  subst e
  exact I1.fpOk (Nat.le_refl _) (I1.hok.fresh (Nat.le_refl _))
theorem range_it {pins : List (Addr × Obj)} {σ : St} {H : Hp} {s : Shared} {R : It → Hp → Prop} {E : Value → Shared → Prop} {lo hi : Int} {t u v : Tok} {tk : Nat} (I : Inv X pins σ H s) (h1 : -(2 ^ 62) ≤ lo) (h2 : lo < 2 ^ 62) (h3 : -(2 ^ 62) ≤ hi) (h4 : hi < 2 ^ 62)
    (q : R (Itr lo (hi - lo).toNat) H) : wpAny (model X.prog X.w) X.A (pyIter (.ref s.heap.objs.size)) (PIE X pins σ tg R) E { s with heap := s.heap.push { cls := .type "range", data := .fields #[.int lo t, .int hi u, .int 1 v] }, toks := tk } := by
  refine wpAny_pyIter_range (IsRange.new ..) (small_one h1 h2 h3 h4) ?_
  have I1 : Inv X pins σ H { s with heap := s.heap.push { cls := .type "range", data := .fields #[.int lo t, .int hi u, .int 1 v] }, toks := tk } := I.kept fun b o e => Heap.get?_push_of_some _ e
  refine ⟨(s.heap.push { cls := .type "range", data := .fields #[.int lo t, .int hi u, .int 1 v] }).objs.size, [(s.heap.push { cls := .type "range", data := .fields #[.int lo t, .int hi u, .int 1 v] }).objs.size], _, _, H, rfl,
    I1.kept (t' := tk) fun b o e => Heap.get?_push_of_some _ e, turn_range _ lo (hi - lo).toNat, ?_, fun b hb => ?_, q⟩
  · have e1 : lo + ((0 : Nat) : Int) * 1 = lo := by simp
    have e2 : (((hi - lo).toNat : Nat) : Int) - ((0 : Nat) : Int) = Builtin.Range.rangeSize lo hi 1 := by rw [rangeSize_one]; split <;> omega
    show IsRangeIter _ _ (lo + ((0 : Nat) : Int) * 1) ((((hi - lo).toNat : Nat) : Int) - ((0 : Nat) : Int)) 1
    rw [e1, e2]
    exact Heap.get?_push_size _ rfl
  · have e : b = (s.heap.push { cls := .type "range", data := .fields #[.int lo t, .int hi u, .int 1 v] }).objs.size := by simpa using hb
    subst e
    exact I1.fpOk (Nat.le_refl _) (I1.hok.fresh (Nat.le_refl _))
noncomputable def iRng1 (ta : TA) : TI := fun σ H R => ta σ H fun vs H1 => ∃ j : Int, vs = [.int j] ∧ -(2 ^ 62) ≤ j ∧ j < 2 ^ 62 ∧ R (Itr 0 j.toNat) H1
theorem pi_range1 {a : Expr} {ta : TA} {p pos : Pos} (hg : Gl X "range") (hm : X.mg "range" = none) (ha : PA X [a] ta) (hs : starEach [a] X.env = [(false, eval a X.env)] := by rfl) : PI X tg (.Call (.Name "range" p) [a] [] pos) (iRng1 ta) := by
  intro pins s σ H R I h
  refine Call_ (ld_blt I hg hm boot_range (PyProof.Rows.callWith_type1 (thn (ha pos pins s σ H _ I h) fun us s1 ⟨vs, H1, I1, r1, q1⟩ => ?_) hs rfl))
  obtain ⟨j, e, q1, q2, q⟩ := q1
  subst e
  cases r1 with
  | cons r rr =>
    cases rr
    obtain ⟨t, rfl⟩ := r
    exact call_range_1 (range_it I1 (by omega) (by omega) q1 q2 (by simpa using q))
noncomputable def tFor (wi : TI) (g : TG) (tb : TS) : TS := fun D σ H => wi σ H fun J H1 => ∃ W : Nat → Nat → St → Hp → Prop, (∃ m, W 0 m σ H1) ∧ ∀ i m σ H, W i m σ H →
  (J.stop i H ∧ D.nx σ H) ∨ (J.go i H ∧ ∃ N : St → Hp → Prop, (∀ σ' H', N σ' H' → ∃ m', m' < m ∧ W (i + 1) m' σ' H') ∧ ∀ x H', J.yld i H x H' → g x σ H' fun σ2 H2 => tb { D with nx := N, ct := N, bk := D.nx } σ2 H2)
noncomputable def pinsAt (fp : List Addr) (h : Heap) : List (Addr × Obj) := fp.filterMap fun b => (h.get? b).map fun o => (b, o)
theorem mem_pinsAt {fp : List Addr} {h : Heap} {b : Addr} {o : Obj} (hb : b ∈ fp) (e : h.get? b = some o) : (b, o) ∈ pinsAt fp h := List.mem_filterMap.mpr ⟨b, hb, by rw [e]; rfl⟩
theorem of_pinsAt {fp : List Addr} {h : Heap} {p : Addr × Obj} (hp : p ∈ pinsAt fp h) : p.1 ∈ fp ∧ h.get? p.1 = some p.2 := by
  obtain ⟨b, hb, e⟩ := List.mem_filterMap.mp hp
  cases q : h.get? b with
  | none => rw [q] at e; cases e
  | some o =>
    rw [q] at e
    have e' : (b, o) = p := Option.some.inj e
    subst e'
    exact ⟨hb, q⟩
theorem Inv.pinned {pins : List (Addr × Obj)} {σ : St} {H : Hp} {s : Shared} {fp : List Addr} (I : Inv X pins σ H s) (hf : ∀ b ∈ fp, FpOk X pins H b) (ho : ∀ b ∈ fp, ∃ o, s.heap.get? b = some o ∧ ∀ v, o.data ≠ .cell v) : Inv X (pins ++ pinsAt fp s.heap) σ H s :=
  I.pins_of fun p hp => (List.mem_append.mp hp).elim (fun z => I.pin p (List.mem_append_right _ z)) fun z => by
    obtain ⟨hb, e⟩ := of_pinsAt z
    obtain ⟨f0, f1, f2, _⟩ := hf p.1 hb
    obtain ⟨o, e', d⟩ := ho p.1 hb
    rw [e] at e'; cases e'
    exact ⟨e, f0, f1, f2, d⟩
theorem Inv.unpinned {pins pl : List (Addr × Obj)} {σ : St} {H : Hp} {s : Shared} (I : Inv X (pins ++ pl) σ H s) : Inv X pins σ H s := I.pins_of fun p hp => I.pin p (List.mem_append_right _ (List.mem_append_left _ hp))
theorem ps_for {iter : Expr} {body : List Stmt} {wi : TI} {g : TG} {tb : TS} {pos : Pos} (hp : PassesOwn (model X.prog X.w) X.A X.env X.xe) (hc : X.calm = true) (hi : PI X tg iter wi) (hg : PG X tg g) (hb : PSs X body tb)
    (hs : ∀ x, foldedSetIterable iter X.env x = pure x := by intro _; rfl) : PS X (.For tg iter body [] pos) (tFor wi g tb) := by
  intro pins s σ H D I h
  refine wpAny_For (thn (hi pins s σ H _ I h) fun v s1 h1 => thn h1 fun itv s2 h2 => ?_) hs
  obtain ⟨it, fp, tn, J, H2, e, I2, T, st2, f2, W, ⟨m0, w0⟩, turn⟩ := h2
  subst e
  have stat : ∀ {H' : Hp}, (∀ b ∈ fp, H' b = none) → ∀ b ∈ fp, FpOk X pins H' b := fun hn b hb => ⟨hn b hb, (f2 b hb).2⟩
  refine codeAny_forLoop_any (fun n s' => ∃ i σ' H', Inv X pins σ' H' s' ∧ tn i s'.heap ∧ (∀ b ∈ fp, H' b = none) ∧ W i n σ' H') ?_ m0 ⟨0, σ, H2, I2, st2, fun b hb => (f2 b hb).1, w0⟩
  rintro n s3 ⟨i, σ3, H3, I3, st3, fr3, w3⟩
  rcases turn i n σ3 H3 w3 with ⟨stop, qn⟩ | ⟨go, N, hN, step⟩
  · refine wpAny_passesOwn hp (thn (T.done X rfl rfl rfl hc i pins s3 σ3 H3 X.xe I3 (stat fr3) st3 stop) fun r s4 ⟨hr, I4⟩ => ?_)
    subst hr
    exact wpAny_execs_nil ⟨σ3, H3, I4, qn⟩
  · refine wpAny_passesOwn hp (thn (T.item X rfl rfl rfl hc i pins s3 σ3 H3 X.xe I3 (stat fr3) st3 go) fun r s4 ⟨u, hr, h4⟩ => ?_)
    subst hr
    refine wpAny_passesOwn hp (thn h4 fun _ s5 ⟨x, H5, I5, r5, y5, st5, fr5⟩ => ?_)
    have I5' := I5.pinned (stat fr5) (T.obj _ _ st5)
    refine wpAny_passesOwn hp (thn (hg _ s5 σ3 H5 x u _ I5' r5 (step x H5 y5)) fun _ s6 ⟨σ6, H6, I6, q6⟩ => ?_)
    refine wpAny_passesOwn hp (thn (hb _ s6 σ6 H6 _ I6 q6) fun f s7 q7 => ?_)
    have again : ∀ {σ7 : St} {H7 : Hp}, Inv X (pins ++ pinsAt fp s5.heap) σ7 H7 s7 → N σ7 H7 → ∃ m, m < n ∧ ∃ i σ' H', Inv X pins σ' H' s7 ∧ tn i s7.heap ∧ (∀ b ∈ fp, H' b = none) ∧ W i m σ' H' := fun {σ7 H7} I7 n7 => by
      obtain ⟨m', hm, w7⟩ := hN σ7 H7 n7
      refine ⟨m', hm, i + 1, σ7, H7, I7.unpinned, T.keep _ _ _ st5 fun b hb o e => (I7.pin (b, o) (List.mem_append_right _ (List.mem_append_right _ (mem_pinsAt hb e)))).1, fun b hb => ?_, w7⟩
      obtain ⟨o, e, d⟩ := T.obj _ _ st5 b hb
      exact (I7.pin (b, o) (List.mem_append_right _ (List.mem_append_right _ (mem_pinsAt hb e)))).2.1
    cases f with
    | next => obtain ⟨σ7, H7, I7, n7⟩ := q7; exact again I7 n7
    | cont => obtain ⟨σ7, H7, I7, n7⟩ := q7; exact again I7 n7
    | brk => obtain ⟨σ7, H7, I7, q7⟩ := q7; exact ⟨σ7, H7, I7.unpinned, q7⟩
    | ret v => obtain ⟨x7, σ7, H7, I7, r7, q7⟩ := q7; exact ⟨x7, σ7, H7, I7.unpinned, r7, q7⟩
end
end L2
namespace L2
open PySem PySem.Spec PyProof.Rows
noncomputable abbrev R2 := V → V → Hp → VK → Prop
noncomputable def OpR (X : Cx) (f : Value → Value → Sem Value) (r : R2) : Prop :=
  ∀ (pins : List (Addr × Obj)) (s : Shared) (σ : St) (H : Hp) (x y : V) (v u : Value) (Q : VK), Inv X pins σ H s → RelV x v → RelV y u → r x y H Q →
    wpAny (model X.prog X.w) X.A (f v u) (EP X pins σ Q) X.xe s
noncomputable def UnR (X : Cx) (f : Value → Sem Value) (r : V → Hp → VK → Prop) : Prop :=
  ∀ (pins : List (Addr × Obj)) (s : Shared) (σ : St) (H : Hp) (x : V) (v : Value) (Q : VK), Inv X pins σ H s → RelV x v → r x H Q →
    wpAny (model X.prog X.w) X.A (f v) (EP X pins σ Q) X.xe s
noncomputable def CallR (X : Cx) (f : Value) (r : List V → Hp → VK → Prop) : Prop :=
  ∀ (pins : List (Addr × Obj)) (s : Shared) (σ : St) (H : Hp) (xs : List V) (us : List Value) (Q : VK), Inv X pins σ H s → Vals xs us → r xs H Q →
    wpAny (model X.prog X.w) X.A (call f us) (EP X pins σ Q) X.xe s
noncomputable def tOp (r : R2) (ta tb : TE) : TE := fun σ H Q => ta σ H fun x H1 => tb σ H1 fun y H2 => r x y H2 Q
noncomputable def tUn (r : V → Hp → VK → Prop) (ta : TE) : TE := fun σ H Q => ta σ H fun x H1 => r x H1 Q
noncomputable def rI (C : Int → Int → Prop) (g : Int → Int → V) : R2 := fun x y H Q => ∃ i j, x = .int i ∧ y = .int j ∧ C i j ∧ Q (g i j) H
noncomputable def rI0 (g : Int → Int → V) : R2 := fun x y H Q => ∃ i j, x = .int i ∧ y = .int j ∧ Q (g i j) H
noncomputable def rU (g : Int → V) : V → Hp → VK → Prop := fun x H Q => ∃ i, x = .int i ∧ Q (g i) H
section
variable {X : Cx} {a b c : Expr} {ta tb tc : TE} {pos : Pos}
theorem binT (ha : PE X a ta) (hb : PE X b tb) {pins : List (Addr × Obj)} {s : Shared} {σ : St} {H : Hp} {R : V → V → Hp → Prop} (I : Inv X pins σ H s)
    (h : ta σ H fun x H1 => tb σ H1 fun y H2 => R x y H2) {Q : Value → Shared → Prop} {f : Value → Value → Sem Value}
    (hf : ∀ v u s2 x y H2, Inv X pins σ H2 s2 → RelV x v → RelV y u → R x y H2 → wpAny (model X.prog X.w) X.A (f v u) Q X.xe s2) :
    wpAny (model X.prog X.w) X.A (eval a X.env) (fun v s₁ => wpAny (model X.prog X.w) X.A (eval b X.env) (fun u s₂ => wpAny (model X.prog X.w) X.A (f v u) Q X.xe s₂) X.xe s₁) X.xe s := by
  refine thn (ha pins s σ H _ I h) fun v s1 ⟨x, H1, I1, r1, q1⟩ => ?_
  refine thn (hb pins s1 σ H1 _ I1 q1) fun u s2 ⟨y, H2, I2, r2, q2⟩ => ?_
  exact hf v u s2 x y H2 I2 r1 r2 q2
theorem pe_op {op : Operator} {r : R2} (ho : OpR X (binaryOp op) r) (ha : PE X a ta) (hb : PE X b tb) : PE X (.BinOp a op b pos) (tOp r ta tb) := by
  intro pins s σ H Q I h
  exact wpAny_BinOp (binT ha hb I h fun v u s2 x y H2 I2 rx ry q => ho pins s2 σ H2 x y v u Q I2 rx ry q)
theorem pe_un {op : UnaryOp} {r : V → Hp → VK → Prop} (ho : UnR X (unaryOp op) r) (ha : PE X a ta) : PE X (.UnaryOp op a pos) (tUn r ta) := by
  intro pins s σ H Q I h
  exact UnaryOp_ (thn (ha pins s σ H _ I h) fun v s1 ⟨x, H1, I1, r1, q1⟩ => ho pins s1 σ H1 x v Q I1 r1 q1)
theorem opI {f : Value → Value → Sem Value} {C : Int → Int → Prop} {g : Int → Int → Int}
    (rule : ∀ (i j : Int) (t u : Tok) (s : Shared) (Q : Value → Shared → Prop) (E : Value → Shared → Prop), C i j → Q (.int (g i j) s.toks) { s with toks := s.toks + 1 } → wpAny (model X.prog X.w) X.A (f (.int i t) (.int j u)) Q E s) :
    OpR X f (rI C fun i j => .int (g i j)) := by
  intro pins s σ H x y v u Q I rx ry h
  obtain ⟨i, j, rfl, rfl, hc, q⟩ := h
  obtain ⟨t, rfl⟩ := rx
  obtain ⟨t', rfl⟩ := ry
  exact rule i j t t' s _ _ hc ⟨.int (g i j), H, I.tok _, ⟨_, rfl⟩, q⟩
theorem opI0 {f : Value → Value → Sem Value} {g : Int → Int → Int}
    (rule : ∀ (i j : Int) (t u : Tok) (s : Shared) (Q : Value → Shared → Prop) (E : Value → Shared → Prop), Q (.int (g i j) s.toks) { s with toks := s.toks + 1 } → wpAny (model X.prog X.w) X.A (f (.int i t) (.int j u)) Q E s) :
    OpR X f (rI0 fun i j => .int (g i j)) := by
  intro pins s σ H x y v u Q I rx ry h
  obtain ⟨i, j, rfl, rfl, q⟩ := h
  obtain ⟨t, rfl⟩ := rx
  obtain ⟨t', rfl⟩ := ry
  exact rule i j t t' s _ _ ⟨.int (g i j), H, I.tok _, ⟨_, rfl⟩, q⟩
theorem opB0 {f : Value → Value → Sem Value} {g : Int → Int → Bool}
    (rule : ∀ (i j : Int) (t u : Tok) (s : Shared) (Q : Value → Shared → Prop) (E : Value → Shared → Prop), Q (.bool (g i j)) s → wpAny (model X.prog X.w) X.A (f (.int i t) (.int j u)) Q E s) :
    OpR X f (rI0 fun i j => .bl (g i j)) := by
  intro pins s σ H x y v u Q I rx ry h
  obtain ⟨i, j, rfl, rfl, q⟩ := h
  obtain ⟨t, rfl⟩ := rx
  obtain ⟨t', rfl⟩ := ry
  exact rule i j t t' s _ _ ⟨.bl (g i j), H, I, rfl, q⟩
noncomputable def CPow (i j : Int) : Prop := 0 ≤ j ∧ j ≤ 1000000 ∧ i.natAbs < 2 ^ 64
noncomputable def CMul (i j : Int) : Prop := (-(2 ^ 64) < i ∧ i < 2 ^ 64) ∨ (-(2 ^ 64) < j ∧ j < 2 ^ 64)
theorem CMul.ok {i j : Int} (h : CMul i j) : IntMulOk i j := by
  rcases h with ⟨h1, h2⟩ | ⟨h1, h2⟩
  · exact .of_left (intBits_le_64 h1 h2)
  · exact .of_right (intBits_le_64 h1 h2)
theorem op_add : OpR X (binaryOp .Add) (rI0 fun i j => .int (i + j)) := opI0 fun _ _ _ _ _ _ _ q => add_int q
theorem op_sub : OpR X (binaryOp .Sub) (rI0 fun i j => .int (i - j)) := opI0 fun _ _ _ _ _ _ _ q => sub_int q
theorem op_mod : OpR X (binaryOp .Mod) (rI (fun _ j => 0 < j) fun i j => .int (i % j)) := opI fun i j _ _ _ _ _ hc q => by
  have h1 : (0 : Int) < j := hc
  exact mod_int' (by omega) (by rw [Int.fmod_eq_emod_of_nonneg i (by omega)]; exact q)
theorem op_pow : OpR X (binaryOp .Pow) (rI CPow fun i j => .int (i ^ j.toNat)) := opI fun _ _ _ _ _ _ _ hc q => pow_int_small hc.1 hc.2.1 hc.2.2 q
theorem unI {f : Value → Sem Value} {g : Int → Int}
    (rule : ∀ (i : Int) (t : Tok) (s : Shared) (Q : Value → Shared → Prop) (E : Value → Shared → Prop), Q (.int (g i) s.toks) { s with toks := s.toks + 1 } → wpAny (model X.prog X.w) X.A (f (.int i t)) Q E s) :
    UnR X f (rU fun i => .int (g i)) := by
  intro pins s σ H x v Q I rx h
  obtain ⟨i, rfl, q⟩ := h
  obtain ⟨t, rfl⟩ := rx
  exact rule i t s _ _ ⟨.int (g i), H, I.tok _, ⟨_, rfl⟩, q⟩
theorem un_neg : UnR X (unaryOp .USub) (rU fun i => .int (-i)) := unI fun _ _ _ _ _ q => neg_int q
end
noncomputable def scal : V → V → Bool
  | .non, .non => true | .non, .int _ => true | .int _, .non => true | .non, .bl _ => true | .bl _, .non => true | .non, .str _ => true | .str _, .non => true
  | .int _, .int _ => true | .bl _, .bl _ => true | .str _, .str _ => true | .byt _, .byt _ => true
  | .int _, .str _ => true | .str _, .int _ => true | .bl _, .str _ => true | .str _, .bl _ => true
  | _, _ => false
noncomputable def rEq : R2 := fun x y H Q => scal x y = true ∧ Q (.bl (decide (x = y))) H
noncomputable def rNe : R2 := fun x y H Q => scal x y = true ∧ Q (.bl (!decide (x = y))) H
theorem dec_int {i j : Int} : decide (V.int i = V.int j) = (i == j) := by
  rw [Bool.eq_iff_iff]
  simp
theorem dec_bl {i j : Bool} : decide (V.bl i = V.bl j) = (i == j) := by
  rw [Bool.eq_iff_iff]
  simp
theorem dec_str {i j : Str} : decide (V.str i = V.str j) = (i == j) := by
  rw [Bool.eq_iff_iff]
  simp
theorem dec_byt {i j : Array UInt8} : decide (V.byt i = V.byt j) = (i.toList == j.toList) := by
  rw [Bool.eq_iff_iff]
  cases i
  cases j
  simp
section
variable {X : Cx} {a b c : Expr} {ta tb tc : TE} {pos : Pos}
theorem fin_bl {pins : List (Addr × Obj)} {σ : St} {H : Hp} {s : Shared} {Q : VK} {k k' : Bool} (I : Inv X pins σ H s) (q : Q (.bl k) H) (e : k = k') : EP X pins σ Q (.bool k') s := by
  subst e
  exact ⟨.bl k, H, I, rfl, q⟩
theorem op_eq : OpR X (compareOp .Eq) rEq := by
  intro pins s σ H x y v u Q I rx ry h
  obtain ⟨hs, q⟩ := h
  cases x with
  | non =>
    cases rx
    cases y with
    | non => cases ry; exact PySem.EqNone.eq_none_none (fin_bl I q (by simp))
    | bl j => cases ry; exact PySem.EqNone.eq_none_bool (fin_bl I q (by simp))
    | int j => obtain ⟨t', rfl⟩ := ry; exact PySem.EqNone.eq_none_int (fin_bl I q (by simp))
    | str j => obtain ⟨t', rfl⟩ := ry; exact PySem.EqNone.eq_none_str (fin_bl I q (by simp))
    | _ => exact absurd (show false = true from hs) Bool.false_ne_true
  | bl i =>
    cases rx
    cases y with
    | non => cases ry; exact PySem.EqNone.eq_bool_none (fin_bl I q (by simp))
    | bl j => cases ry; exact eq_bool (fin_bl I q dec_bl)
    | str j => obtain ⟨t', rfl⟩ := ry; exact PySem.EqMixed.eq_bool_str (fin_bl I q (by simp))
    | _ => exact absurd (show false = true from hs) Bool.false_ne_true
  | int i =>
    obtain ⟨t, rfl⟩ := rx
    cases y with
    | non => cases ry; exact PySem.EqNone.eq_int_none (fin_bl I q (by simp))
    | int j => obtain ⟨t', rfl⟩ := ry; exact eq_int (fin_bl I q dec_int)
    | str j => obtain ⟨t', rfl⟩ := ry; exact PySem.EqMixed.eq_int_str (fin_bl I q (by simp))
    | _ => exact absurd (show false = true from hs) Bool.false_ne_true
  | str i =>
    obtain ⟨t, rfl⟩ := rx
    cases y with
    | non => cases ry; exact PySem.EqNone.eq_str_none (fin_bl I q (by simp))
    | bl j => cases ry; exact PySem.EqMixed.eq_str_bool (fin_bl I q (by simp))
    | int j => obtain ⟨t', rfl⟩ := ry; exact PySem.EqMixed.eq_str_int (fin_bl I q (by simp))
    | str j => obtain ⟨t', rfl⟩ := ry; exact eq_str (fin_bl I q dec_str)
    | _ => exact absurd (show false = true from hs) Bool.false_ne_true
  | byt i =>
    obtain ⟨t, rfl⟩ := rx
    cases y with
    | byt j => obtain ⟨t', rfl⟩ := ry; exact PySem.W.eq_bytes (fin_bl I q dec_byt)
    | _ => exact absurd (show false = true from hs) Bool.false_ne_true
  | _ => cases y <;> exact absurd (show false = true from hs) Bool.false_ne_true
theorem op_ne : OpR X (compareOp .NotEq) rNe := by
  intro pins s σ H x y v u Q I rx ry h
  obtain ⟨hs, q⟩ := h
  cases x with
  | non =>
    cases rx
    cases y with
    | non => cases ry; exact PySem.EqNone.ne_none_none (fin_bl I q (by simp))
    | bl j => cases ry; exact PySem.EqNone.ne_none_bool (fin_bl I q (by simp))
    | int j => obtain ⟨t', rfl⟩ := ry; exact PySem.EqNone.ne_none_int (fin_bl I q (by simp))
    | str j => obtain ⟨t', rfl⟩ := ry; exact PySem.EqNone.ne_none_str (fin_bl I q (by simp))
    | _ => exact absurd (show false = true from hs) Bool.false_ne_true
  | bl i =>
    cases rx
    cases y with
    | non => cases ry; exact PySem.EqNone.ne_bool_none (fin_bl I q (by simp))
    | bl j => cases ry; exact ne_bool (fin_bl I q (congrArg not dec_bl))
    | str j => obtain ⟨t', rfl⟩ := ry; exact PySem.EqMixed.ne_bool_str (fin_bl I q (by simp))
    | _ => exact absurd (show false = true from hs) Bool.false_ne_true
  | int i =>
    obtain ⟨t, rfl⟩ := rx
    cases y with
    | non => cases ry; exact PySem.EqNone.ne_int_none (fin_bl I q (by simp))
    | int j => obtain ⟨t', rfl⟩ := ry; exact ne_int (fin_bl I q (congrArg not dec_int))
    | str j => obtain ⟨t', rfl⟩ := ry; exact PySem.EqMixed.ne_int_str (fin_bl I q (by simp))
    | _ => exact absurd (show false = true from hs) Bool.false_ne_true
  | str i =>
    obtain ⟨t, rfl⟩ := rx
    cases y with
    | non => cases ry; exact PySem.EqNone.ne_str_none (fin_bl I q (by simp))
    | bl j => cases ry; exact PySem.EqMixed.ne_str_bool (fin_bl I q (by simp))
    | int j => obtain ⟨t', rfl⟩ := ry; exact PySem.EqMixed.ne_str_int (fin_bl I q (by simp))
    | str j => obtain ⟨t', rfl⟩ := ry; exact ne_str (fin_bl I q (congrArg not dec_str))
    | _ => exact absurd (show false = true from hs) Bool.false_ne_true
  | byt i =>
    obtain ⟨t, rfl⟩ := rx
    cases y with
    | byt j => obtain ⟨t', rfl⟩ := ry; exact PySem.W.ne_bytes (fin_bl I q (congrArg not dec_byt))
    | _ => exact absurd (show false = true from hs) Bool.false_ne_true
  | _ => cases y <;> exact absurd (show false = true from hs) Bool.false_ne_true
theorem op_lt : OpR X (compareOp .Lt) (rI0 fun i j => .bl (decide (i < j))) := opB0 fun _ _ _ _ _ _ _ q => lt_int q
theorem op_le : OpR X (compareOp .LtE) (rI0 fun i j => .bl (decide (i ≤ j))) := opB0 fun _ _ _ _ _ _ _ q => le_int q
theorem op_gt : OpR X (compareOp .Gt) (rI0 fun i j => .bl (decide (j < i))) := opB0 fun _ _ _ _ _ _ _ q => gt_int q
theorem op_in_str : OpR X (compareOp .In) (fun x y H Q => ∃ i j, x = .str i ∧ y = .str j ∧ Q (.bl (!(Builtin.Str.occurrences j i 0 j.length 1).isEmpty)) H) := by
  intro pins s σ H x y v u Q I rx ry h
  obtain ⟨i, j, rfl, rfl, q⟩ := h
  obtain ⟨t, rfl⟩ := rx
  obtain ⟨t', rfl⟩ := ry
  exact in_str (fin_bl I q rfl)
theorem op_isN : OpR X (compareOp .Is) (fun x y H Q => y = .non ∧ Q (.bl (decide (x = .non))) H) := by
  intro pins s σ H x y v u Q I rx ry h
  obtain ⟨rfl, q⟩ := h
  cases ry
  refine is_none_gen (fin_bl I q ?_)
  cases x <;> first
    | (cases rx; rfl)
    | (obtain ⟨t, rfl⟩ := rx; rfl)
theorem op_notin_str : OpR X (compareOp .NotIn) (fun x y H Q => ∃ i j, x = .str i ∧ y = .str j ∧ Q (.bl (!(!(Builtin.Str.occurrences j i 0 j.length 1).isEmpty))) H) := by
  intro pins s σ H x y v u Q I rx ry h
  obtain ⟨i, j, rfl, rfl, q⟩ := h
  obtain ⟨t, rfl⟩ := rx
  obtain ⟨t', rfl⟩ := ry
  exact notIn_str (fin_bl I q rfl)
theorem OpR.or {f : Value → Value → Sem Value} {r r' : R2} (h : OpR X f r) (h' : OpR X f r') : OpR X f (fun x y H Q => r x y H Q ∨ r' x y H Q) := by
  intro pins s σ H x y v u Q I rx ry q
  rcases q with q | q
  · exact h pins s σ H x y v u Q I rx ry q
  · exact h' pins s σ H x y v u Q I rx ry q
theorem nomark (b : Expr) {op : CmpOp} (h : op ≠ .In := by decide) (h2 : op ≠ .NotIn := by decide) : behindInMarks op b = false := by
  have e1 : (op == CmpOp.In) = false := by cases op <;> first | rfl | exact absurd rfl h
  have e2 : (op == CmpOp.NotIn) = false := by cases op <;> first | rfl | exact absurd rfl h2
  cases b <;> simp [behindInMarks, e1, e2]
theorem pe_cmpR {op : CmpOp} {r : R2} (ho : OpR X (compareOp op) r) (ha : PE X a ta) (hb : PE X b tb) (hm : behindInMarks op b = false) : PE X (.Compare a [op] [b] pos) (tOp r ta tb) := by
  intro pins s σ H Q I h
  exact wpAny_Compare1 (binT ha hb I h fun v u s2 x y H2 I2 rx ry q => ho pins s2 σ H2 x y v u Q I2 rx ry q) hm
noncomputable def tTest (t : TE) : TT := fun σ H Q => t σ H fun x H' => ∃ k, x = .bl k ∧ Q k H'
theorem pt_cmpR {op : CmpOp} {r : R2} (ho : OpR X (compareOp op) r) (ha : PE X a ta) (hb : PE X b tb) (hm : behindInMarks op b = false) : PT X (.Compare a [op] [b] pos) (tTest (tOp r ta tb)) := by
  intro pins s σ H Q I h
  refine wpAny_isTrue_Compare1 (thn (ha pins s σ H _ I h) fun v s1 ⟨x, H1, I1, r1, q1⟩ => thn (hb pins s1 σ H1 _ I1 q1) fun u s2 ⟨y, H2, I2, r2, q2⟩ =>
    thn (ho pins s2 σ H2 x y v u _ I2 r1 r2 q2) fun c s3 ⟨z, H3, I3, r3, k, e, q3⟩ => ?_) hm
  subst e
  cases r3
  exact wpAny_truthy_bool ⟨H3, I3, q3⟩
theorem line63 : (sizeLine : Nat) < 2 ^ 63 := by rw [sizeLine_eq]; decide
theorem op_add_str : OpR X (binaryOp .Add) (fun x y H Q => ∃ i j, x = .str i ∧ y = .str j ∧ i.length + j.length ≤ sizeLine ∧ Q (.str (i ++ j)) H) := by
  intro pins s σ H x y v u Q I rx ry h
  obtain ⟨i, j, rfl, rfl, hz, q⟩ := h
  obtain ⟨t, rfl⟩ := rx
  obtain ⟨t', rfl⟩ := ry
  exact add_str (fun t' tk => ⟨.str (i ++ j), H, I.tok _, ⟨_, rfl⟩, q⟩) hz
theorem vals1 {x : V} {us : List Value} (r : Vals [x] us) : ∃ u, us = [u] ∧ RelV x u := by
  cases r with
  | cons r1 r2 => cases r2; exact ⟨_, rfl, r1⟩
theorem vals2 {x y : V} {us : List Value} (r : Vals [x, y] us) : ∃ u w', us = [u, w'] ∧ RelV x u ∧ RelV y w' := by
  cases r with
  | cons r1 r2 =>
    cases r2 with
    | cons r3 r4 => cases r4; exact ⟨_, _, rfl, r1, r3⟩
theorem call_abs : CallR X (.builtin "abs") (fun xs H Q => ∃ i, xs = [.int i] ∧ Q (.int (if i < 0 then -i else i)) H) := by
  intro pins s σ H xs us Q I r h
  obtain ⟨i, rfl, q⟩ := h
  obtain ⟨u, rfl, t, rfl⟩ := vals1 r
  exact call_abs_int fun u tk => ⟨.int (if i < 0 then -i else i), H, I.tok _, ⟨_, rfl⟩, q⟩
theorem call_max2 (hc : X.calm = true) : CallR X (.builtin "max") (fun xs H Q => ∃ i j, xs = [.int i, .int j] ∧ Q (.int (if j > i then j else i)) H) := by
  intro pins s σ H xs us Q I r h
  obtain ⟨i, j, rfl, q⟩ := h
  obtain ⟨u, w', rfl, ⟨t, rfl⟩, ⟨t', rfl⟩⟩ := vals2 r
  refine max_two_ints (I.ok.hd hc) fun h' tk k => ⟨_, H, I.kept k, ?_, q⟩
  by_cases hj : j > i
  · rw [if_pos hj, if_pos hj]; exact ⟨_, rfl⟩
  · rw [if_neg hj, if_neg hj]; exact ⟨_, rfl⟩
theorem call_min2 (hc : X.calm = true) : CallR X (.builtin "min") (fun xs H Q => ∃ i j, xs = [.int i, .int j] ∧ Q (.int (if j < i then j else i)) H) := by
  intro pins s σ H xs us Q I r h
  obtain ⟨i, j, rfl, q⟩ := h
  obtain ⟨u, w', rfl, ⟨t, rfl⟩, ⟨t', rfl⟩⟩ := vals2 r
  refine min_two_ints (I.ok.hd hc) fun h' tk k => ⟨_, H, I.kept k, ?_, q⟩
  by_cases hj : j < i
  · rw [if_pos hj, if_pos hj]; exact ⟨_, rfl⟩
  · rw [if_neg hj, if_neg hj]; exact ⟨_, rfl⟩
theorem call_str_int : CallR X (.type "str") (fun xs H Q => ∃ i, xs = [.int i] ∧ i.natAbs.log2 < 1920 ∧ Q (.str (toString i)) H) := by
  intro pins s σ H xs us Q I r h
  obtain ⟨i, rfl, hz, q⟩ := h
  obtain ⟨u, rfl, t, rfl⟩ := vals1 r
  exact PySem.P.str_of_int hz ⟨.str _, H, I.tok _, ⟨_, rfl⟩, q⟩
end
end L2
namespace L2
open PySem PySem.Spec PyProof.Rows
structure ObjM (h : Heap) (x dx C : Addr) (mA : Str → Option Value) : Prop where
  obj : h.get? x = some (PySem.W.instObj C dx)
  ns : h.Ns1 dx mA
  ne : dx ≠ x
theorem lookIn_ns {h : Heap} {dx : Addr} {mA : Str → Option Value} (n : h.Ns1 dx mA) : ∃ od, h.get? dx = some od ∧ ∀ name, PySem.W.lookIn name od = some (mA name) := by
  obtain ⟨o, es, ep, ho, hd, hk, _, hm⟩ := n
  refine ⟨o, ho, fun name => ?_⟩
  have e := hm name
  unfold nsFind findBy at e
  rw [← Array.find?_toList] at e
  unfold PySem.W.lookIn
  rw [hd]
  dsimp only
  split
  · rename_i y q
    rw [q] at e
    exact congrArg some e
  · rename_i q
    rw [q] at e
    have a : es.toList.any (·.refKey) = false := by
      rw [List.any_eq_false]
      intro y hy
      obtain ⟨z, t, hkey⟩ := hk y (Array.mem_toList_iff.mp hy)
      simp [DictEntry.refKey, hkey]
    have a' : ¬ es.toList.any (·.refKey) = true := by rw [a]; exact Bool.false_ne_true
    rw [if_neg a']
    exact congrArg some e
theorem ObjM.look {h : Heap} {x dx C : Addr} {mA : Str → Option Value} (I : ObjM h x dx C mA) : ∃ od, PySem.W.InstAt h x (PySem.W.instObj C dx) C (some od) ∧ ∀ name, PySem.W.lookIn name od = some (mA name) :=
  let ⟨od, ho, hl⟩ := lookIn_ns I.ns
  ⟨od, ⟨I.obj, rfl, rfl, ho⟩, hl⟩
section
variable {prog : Program} {w : World} {A : Around} {E : Value → Shared → Prop} {s : Shared} {K : PySem.W.Frag} {x dx C f : Addr} {mA : Str → Option Value} {name : Str} {v : Value}
end
section
variable {P : Program} {w : World} {H H' : Hp} {h h' : Heap} {a C dx : Addr} {fs fs' : List (Str × V)}
theorem ins_get (hok : HOk P w H h) (e : H a = some (.ins C dx fs)) : ∃ mA, ObjM h a dx C mA ∧ (∀ f, RelO (fs.lookup f) (mA f)) ∧ PySem.Within mA (fs.map (·.1)) ∧ fs.length ≤ 1000 ∧ H dx = some (.own a) := by
  obtain ⟨d, z, ne, ob, mA, n, r, q⟩ := (show ObjOk P w H h a (.ins C dx fs) from hok a _ e)
  exact ⟨mA, ⟨ob, n, ne⟩, r, q, z, d⟩
end
structure Cls (K : PySem.W.Frag) (C : Addr) : Prop where
  pg : PySem.W.plainGet K C Str.empty = true
  hd : PySem.W.hasDictIn K C = true
  po : PySem.W.plainOver K C = true
  sa : PySem.W.findIn K (.ref C) "__setattr__" = some (some (.builtin "object.__setattr__"))
theorem Cls.get {K : PySem.W.Frag} {C : Addr} (c : Cls K C) (f : Str) : PySem.W.plainGet K C f = true := c.pg
structure Con (K : PySem.W.Frag) (C : Addr) (f : Str) (v : V) (u : Value) : Prop where
  at_ : PySem.W.findIn K (.ref C) f = some (some u)
  rel : RelV v u
  get : PySem.W.specialIn K u "__get__" = some none
  cp : PySem.W.copiedNames.contains f = false
structure Meth (K : PySem.W.Frag) (C : Addr) (m : Str) (f : Addr) : Prop where
  at_ : PySem.W.findIn K (.ref C) m = some (some (.ref f))
  fn : PySem.W.isFn K (.ref f) = true
  kp : PySem.W.keepIn K (.ref f) = true
section
variable {X : Cx} {pins : List (Addr × Obj)} {σ : St} {H : Hp} {s : Shared} {a C dx : Addr} {fs : List (Str × V)} {f : Str} {v : V} {A : Around} {E : Value → Shared → Prop}
theorem Inv.made (I : Inv X pins σ H s) : Inv X pins σ (upd (upd H s.heap.objs.size (.own (s.heap.objs.size + 1))) (s.heap.objs.size + 1) (.ins C s.heap.objs.size []))
    { s with heap := (s.heap.push PySem.W.emptyDict).push (PySem.W.instObj C s.heap.objs.size) } := by
  have e1 : (s.heap.push PySem.W.emptyDict).get? s.heap.objs.size = some PySem.W.emptyDict := Heap.get?_push_size s.heap rfl
  have e2 : ((s.heap.push PySem.W.emptyDict).push (PySem.W.instObj C s.heap.objs.size)).get? (s.heap.objs.size + 1) = some (PySem.W.instObj C s.heap.objs.size) := by
    have := Heap.get?_push_size (s.heap.push PySem.W.emptyDict) (o := PySem.W.instObj C s.heap.objs.size) rfl
    rwa [Heap.size_push] at this
  have e3 : (s.heap.push PySem.W.emptyDict).Ns s.heap.objs.size (fun _ => none) := ⟨PySem.W.emptyDict, #[], _, e1, rfl, (fun e he => absurd he (by simp)), fun _ => rfl⟩
  have I1 := I.laid (a := s.heap.objs.size) (o := .own (s.heap.objs.size + 1)) (h' := s.heap.push PySem.W.emptyDict) (t' := s.toks) (fun b u q => Heap.get?_push_of_some _ q) (Nat.le_refl _) ⟨_, e1⟩
  refine I1.laid (a := s.heap.objs.size + 1) (o := .ins C s.heap.objs.size []) (t' := s.toks) (fun b u q => Heap.get?_push_of_some _ q) (Nat.le_of_eq (Heap.size_push _ _)) ?_
  have ne : s.heap.objs.size ≠ s.heap.objs.size + 1 := Nat.ne_of_lt (Nat.lt_succ_self _)
  refine ⟨by rw [upd_ne ne, upd_same], Nat.zero_le _, ne, e2, fun _ => none, (Heap.Ns1.of_empty e3).at fun o q => Heap.get?_push_of_some _ q, fun _ => True.intro, fun y hy => absurd rfl hy⟩
end
section
variable {X : Cx} {o e value : Expr} {f : Str} {pos pos' tpos : Pos} {ta tv : TE}
end
section
variable {X : Cx} {pins : List (Addr × Obj)} {σ : St} {H : Hp} {s : Shared} {A : Around} {E : Value → Shared → Prop} {Q : Value → Shared → Prop} {c : Value} {b : Bool}
inductive TyOf (K : PySem.W.Frag) (H : Hp) : V → Value → Prop where
  | non : TyOf K H .non (.type "NoneType")
  | bl (x : Bool) : TyOf K H (.bl x) (.type "bool")
  | int (i : Int) : TyOf K H (.int i) (.type "int")
  | str (x : Str) : TyOf K H (.str x) (.type "str")
  | flt (x : UInt64) : TyOf K H (.flt x) (.type "float")
  | lst {a : Addr} {xs : List V} (e : H a = some (.lst xs)) : TyOf K H (.ref a) (.type "list")
  | frz {a : Addr} {o : Obj} {xs : List V} (e : H a = some (.frz o (.lst xs))) : TyOf K H (.ref a) (.type "list")
  | tup {a : Addr} {xs : List V} (e : H a = some (.tup xs)) : TyOf K H (.ref a) (.type "tuple")
  | dK {a : Addr} {kvs : List (Key × V)} (e : H a = some (.dK kvs)) : TyOf K H (.ref a) (.type "dict")
  | dT {a : Addr} {kvs : List (List Key × V)} (e : H a = some (.dT kvs)) : TyOf K H (.ref a) (.type "dict")
  | ins {a C dx : Addr} {fs : List (Str × V)} (e : H a = some (.ins C dx fs)) (cl : Cls K C) (ha : PySem.W.findIn K (.ref C) "__class__" = some (some (.builtin "object.__class__")))
      (hn : PySem.W.specialIn K (.builtin "object.__class__") "__get__" = some (some (.builtin "getset_descriptor.__get__"))) (htk : PySem.W.takesIn K (.builtin "object.__class__") = some true)
      (hm : PySem.W.mroIn K C (.type "object") = some true) : TyOf K H (.ref a) (.ref C)
theorem isinst_ok {x : V} {u t : Value} (I : Inv X pins σ H s) (rx : RelV x u) (ty : TyOf X.K H x t) (e : PySem.W.kitOne X.K t c = some b) (h : ∀ tk, Q (.bool b) { s with toks := tk }) :
    wpAny (model X.prog X.w) A (call (.builtin "isinstance") [u, c]) Q E s := by
  cases ty with
  | non => cases (show u = Value.none from rx); exact PySem.W.kia_one PySem.W.kitx_none I.kIn True.intro e (fun z => nomatch z) h
  | bl y => cases (show u = Value.bool y from rx); exact PySem.W.kia_one PySem.W.kitx_bool I.kIn True.intro e (fun z => nomatch z) h
  | int i => obtain ⟨t, q⟩ := (show ∃ t, u = Value.int i t from rx); cases q; exact PySem.W.kia_one PySem.W.kitx_int I.kIn True.intro e (fun z => nomatch z) h
  | str y => obtain ⟨t, q⟩ := (show ∃ t, u = Value.str y t from rx); cases q; exact PySem.W.kia_one PySem.W.kitx_str I.kIn True.intro e (fun z => nomatch z) h
  | flt y => obtain ⟨t, q⟩ := (show ∃ t, u = Value.float y t from rx); cases q; exact PySem.W.kia_one PySem.W.kitx_float I.kIn True.intro e (fun z => nomatch z) h
  | @lst a xs ea =>
    cases (show u = Value.ref a from rx)
    obtain ⟨_, _, n, _, h1⟩ := (show ObjOk X.prog X.w H s.heap a (.lst xs) from I.hok a _ ea)
    exact PySem.W.kia_one PySem.W.kitx_list I.kIn ⟨_, h1, rfl⟩ e (fun z => nomatch z) h
  | @frz a ob xs ea =>
    cases (show u = Value.ref a from rx)
    obtain ⟨_, _, _, n, _, h1⟩ := (show ObjOk X.prog X.w H s.heap a (.frz ob (.lst xs)) from I.hok a _ ea)
    exact PySem.W.kia_one PySem.W.kitx_list I.kIn ⟨_, h1, rfl⟩ e (fun z => nomatch z) h
  | @tup a xs ea =>
    cases (show u = Value.ref a from rx)
    obtain ⟨_, _, _, p⟩ := (show ObjOk X.prog X.w H s.heap a (.tup xs) from I.hok a _ ea)
    obtain ⟨o, h1, h2, _⟩ := p
    exact PySem.W.kia_one PySem.W.kitx_tuple I.kIn ⟨o, h1, h2⟩ e (fun z => nomatch z) h
  | @dK a kvs ea =>
    cases (show u = Value.ref a from rx)
    obtain ⟨_, _, vs, _, p⟩ := (show ObjOk X.prog X.w H s.heap a (.dK kvs) from I.hok a _ ea)
    obtain ⟨o, es, ep, h1, h2, _⟩ := p
    exact PySem.W.kia_one PySem.W.kitx_dict I.kIn ⟨o, h1, h2.1⟩ e (fun z => nomatch z) h
  | @dT a kvs ea =>
    cases (show u = Value.ref a from rx)
    obtain ⟨_, _, xs, _, o, es, ep, h1, h2, _⟩ := (show ObjOk X.prog X.w H s.heap a (.dT kvs) from I.hok a _ ea)
    exact PySem.W.kia_one PySem.W.kitx_dict I.kIn ⟨o, h1, h2.1⟩ e (fun z => nomatch z) h
  | @ins a C dx fs ea cl ha hn htk hm =>
    cases (show u = Value.ref a from rx)
    obtain ⟨mA, O, _⟩ := ins_get I.hok ea
    obtain ⟨od, J, _⟩ := O.look
    exact PySem.W.kia_one (PySem.W.kitx_own (cl.get _) cl.hd ha hn htk hm) I.kIn J e (fun z => nomatch z) h
end
end L2
namespace L2
open PySem PySem.Spec PyProof.Rows
structure Room (k : Nat) (A : Around) : Prop where
  hd : A.handled = none
  dp : A.depth + 3 * k + 5 < recursionLimit
  un : A.units + 16 * k + 200 < cLine
theorem Room.mono {j k : Nat} {A : Around} (r : Room k A) (h : j ≤ k) : Room j A := ⟨r.hd, by have := r.dp; omega, by have := r.un; omega⟩
theorem Room.deeper {k : Nat} {A : Around} (r : Room (k + 1) A) (env : Env) : Room k (A.deeper env) :=
  ⟨r.hd, by have := r.dp; show A.depth + 1 + 3 * k + 5 < _; omega, by have := r.un; show A.units + 3 + 16 * k + 200 < _; omega⟩
theorem Room.depth {k : Nat} {A : Around} (r : Room k A) : A.depth < recursionLimit := by have := r.dp; omega
theorem Room.units {k : Nat} {A : Around} (r : Room k A) : A.units + 64 < cLine := by have := r.un; omega
noncomputable def tNil : TA := fun _ H Q => Q [] H
noncomputable def tCons (ta : TE) (tr : TA) : TA := fun σ H Q => ta σ H fun x H1 => tr σ H1 fun xs H2 => Q (x :: xs) H2
section
variable {X : Cx} {e : Expr} {es : List Expr} {te : TE} {t : TA} {pos : Pos}
theorem pa_nil : PA X [] tNil := fun _ _ _ _ H Q I h => Calls.spliced_nil ⟨[], H, I, .nil, h⟩
theorem pa_cons (ha : PE X e te) (hr : PA X es t) (hs : starEach (e :: es) X.env = (false, eval e X.env) :: starEach es X.env := by rfl) : PA X (e :: es) (tCons te t) := by
  intro pos pins s σ H Q I h
  rw [hs]
  show wpAny _ _ (spliced ((false, eval e X.env) :: backTo pos (starEach es X.env))) _ _ s
  refine Calls.spliced_cons (thn (ha pins s σ H _ I h) fun u s1 ⟨x, H1, I1, r1, q1⟩ => ?_)
  exact thn (hr pos pins s1 σ H1 _ I1 q1) fun us s2 ⟨xs, H2, I2, r2, q2⟩ => ⟨x :: xs, H2, I2, .cons r1 r2, q2⟩
noncomputable def tTup (t : TA) : TE := fun σ H Q => t σ H fun xs H1 => xs.length ≤ sizeLine ∧ ∀ p, H1 p = none → Q (.ref p) (upd H1 p (.tup xs))
noncomputable def tLst (t : TA) : TE := fun σ H Q => t σ H fun xs H1 => xs.length ≤ sizeLine ∧ ∀ p, H1 p = none → Q (.ref p) (upd H1 p (.lst xs))
theorem pe_tup {x1} (h : PA X es t) : PE X (.Tuple es x1 pos) (tTup t) := by
  intro pins s σ H Q I hq
  refine wpAny_Tuple_spliced (thn (h pos pins s σ H _ I hq) fun us s1 ⟨xs, H1, I1, r, z, q⟩ => ⟨by rw [← r.length]; exact z, ?_⟩)
  have hf : H1 s1.heap.objs.size = none := I1.hok.fresh (Nat.le_refl _)
  refine ⟨.ref s1.heap.objs.size, upd H1 s1.heap.objs.size (.tup xs), I1.laid (t' := s1.toks) (fun b u e => Heap.get?_push_of_some _ e) (Nat.le_refl _) ?_, rfl, q _ hf⟩
  exact ⟨z, us, r, ⟨_, Heap.get?_push_size _ rfl, rfl, _, rfl⟩⟩
theorem pe_lst (h : PA X es t) : PE X (.List es pos) (tLst t) := by
  intro pins s σ H Q I hq
  refine wpAny_List_spliced (thn (h pos pins s σ H _ I hq) fun us s1 ⟨xs, H1, I1, r, z, q⟩ => ⟨by rw [← r.length]; exact z, ?_⟩)
  have hf : H1 s1.heap.objs.size = none := I1.hok.fresh (Nat.le_refl _)
  refine ⟨.ref s1.heap.objs.size, upd H1 s1.heap.objs.size (.lst xs), I1.laid (t' := s1.toks) (fun b u e => Heap.get?_push_of_some _ e) (Nat.le_refl _) ?_, rfl, q _ hf⟩
  exact ⟨z, us, 0, r, Heap.get?_push_size _ rfl⟩
end
noncomputable abbrev Sp := List V → Hp → VK → XK → Prop
noncomputable abbrev CXT := List Env → Hp → Shared → XK → Value → Shared → Prop
structure Env0 (P : Program) (w : World) (K : PySem.W.Frag) (mg : Str → Option Value) (base : Heap) (A : Around) (outer : List Env) (s : Shared) (H : Hp) : Prop where
  frames : A.frames = some outer
  mod : Mod K mg base
  bs : ∀ b o, base.get? b = some o → s.heap.get? b = some o ∧ H b = none
  bsz : base.objs.size ≤ s.heap.objs.size
  funs : s.heap.FunFrames base outer
  frf : ∀ b ∈ frs outer, H b = none
  hok : HOk P w H s.heap
  bare : AllBare s.gens
noncomputable def CE (outer : List Env) (P : Program) (w : World) (H : Hp) (s : Shared) (Q : VK) (u : Value) (s' : Shared) : Prop :=
  ∃ v H', s'.os = s.os ∧ AllBare s'.gens ∧ Un (frs outer) [] H H' s.heap s'.heap ∧ HOk P w H' s'.heap ∧ RelV v u ∧ Q v H'
noncomputable def CR (CX : CXT) (outer : List Env) (P : Program) (w : World) (H : Hp) (s : Shared) (Q : VK) (E : XK) (r : Result) (s' : Shared) : Prop :=
  match r with
  | .ok (.ret u) => CE outer P w H s Q u s'
  | .ok _ => False
  | .error e => CX outer H s E e s'
structure FnOk (P : Program) (w : World) (K : PySem.W.Frag) (mg : Str → Option Value) (base : Heap) (CX : CXT) (k : Nat) (f : Addr) (fd : FuncData) (ps : List Str) (sp : Sp) : Prop where
  len : ∀ vs H Q E, sp vs H Q E → vs.length = ps.length
  run : ∀ (A : Around) (outer : List Env) (s : Shared) (H : Hp) (args : Args) (us : List Value) (vs : List V) (Q : VK) (E : XK), Room k A → Env0 P w K mg base A outer s H → BindsTo s fd args (ps.zip us) → Vals vs us → sp vs H Q E →
    codeAny (model P w) A (.call (.ref f) args) (CR CX outer P w H s Q E) s
theorem FnOk.mono {P : Program} {w : World} {K : PySem.W.Frag} {mg : Str → Option Value} {base : Heap} {CX : CXT} {j k : Nat} {f : Addr} {fd : FuncData} {ps : List Str} {sp : Sp} (F : FnOk P w K mg base CX j f fd ps sp) (h : j ≤ k) :
    FnOk P w K mg base CX k f fd ps sp := ⟨F.len, fun A outer s H args us vs Q E hr => F.run A outer s H args us vs Q E (hr.mono h)⟩
theorem FnOk.imp {P : Program} {w : World} {K : PySem.W.Frag} {mg : Str → Option Value} {base : Heap} {CX : CXT} {k : Nat} {f : Addr} {fd : FuncData} {ps : List Str} {sp sp' : Sp} (F : FnOk P w K mg base CX k f fd ps sp)
    (h : ∀ vs H Q E, sp' vs H Q E → sp vs H Q E) : FnOk P w K mg base CX k f fd ps sp' :=
  ⟨fun vs H Q E q => F.len vs H Q E (h _ _ _ _ q), fun A outer s H args us vs Q E hr he hb hv hs => F.run A outer s H args us vs Q E hr he hb hv (h _ _ _ _ hs)⟩
section
variable {X : Cx} {pins : List (Addr × Obj)} {σ : St} {H : Hp} {s s' : Shared}
theorem Inv.env0 (I : Inv X pins σ H s) : Env0 X.prog X.w X.K X.mg X.base X.A X.stack s H :=
  ⟨I.ok.frames, I.ok.mod, I.bs, Nat.le_trans I.ok.bsz I.sz, I.stack, I.stkFree, I.hok, I.bare⟩
theorem Inv.after {Q : VK} {u : Value} (I : Inv X pins σ H s) (h : CE X.stack X.prog X.w H s Q u s') : EP X pins σ Q u s' := by
  obtain ⟨v, H', os, bare, un, hok, r, q⟩ := h
  obtain ⟨hh, g, d, t, os'⟩ := s'
  obtain rfl : os' = s.os := os
  exact ⟨v, H', I.call (h' := hh) (g' := g) (d' := d) (t' := t) (ch := []) un hok bare (fun b z => absurd z (by simp)), r, q⟩
end
noncomputable def tCall (sp : Sp) (dvs : List V) (E : XK) (t : TA) : TE := fun σ H Q => t σ H fun vs H1 => sp (vs ++ dvs) H1 Q E
noncomputable def Binds (K : PySem.W.Frag) (fd : FuncData) (ps : List Str) (ds : List Value) : Prop :=
  ∀ (s : Shared) (us : List Value), K.In s.heap → (us ++ ds).length = ps.length → BindsTo s fd ⟨us, []⟩ (ps.zip (us ++ ds))
theorem Binds.all {K : PySem.W.Frag} {fd : FuncData} {ps : List Str} (h : ∀ us : List Value, us.length = ps.length → bindArgs fd ⟨us, []⟩ = pure (ps.zip us)) : Binds K fd ps [] := fun s us _ hl => by
  rw [List.append_nil] at hl ⊢
  exact .of_eq (h us hl)
noncomputable def Passes (CX : CXT) (X : Cx) (E : XK) : Prop := ∀ (pins : List (Addr × Obj)) (σ : St) (H : Hp) (s : Shared) (e : Value) (s' : Shared), Inv X pins σ H s → CX X.stack H s E e s' → X.xe e s'
section
variable {X : Cx} {CX : CXT} {k : Nat} {f C : Addr} {fd : FuncData} {ps : List Str} {sp : Sp} {dvs : List V} {ds : List Value} {E : XK} {x m : Str} {p pos apos : Pos} {e o : Expr} {es : List Expr} {ta : TE} {t : TA}
theorem run_fn {pins : List (Addr × Obj)} {σ : St} {H : Hp} {s : Shared} {Q : VK} {us : List Value} {vs : List V} (F : FnOk X.prog X.w X.K X.mg X.base CX k f fd ps sp) (hr : Room k X.A) (hb : Binds X.K fd ps ds) (hd : Vals dvs ds) (hx : Passes CX X E)
    (I : Inv X pins σ H s) (r : Vals vs us) (h : sp (vs ++ dvs) H Q E) : wpAny (model X.prog X.w) X.A (call (.ref f) us) (EP X pins σ Q) X.xe s := by
  have r2 : Vals (vs ++ dvs) (us ++ ds) := r.append hd
  have hl : (us ++ ds).length = ps.length := by rw [← r2.length]; exact F.len _ _ _ _ h
  refine wpAny_call (codeAny_mono (F.run X.A X.stack s H ⟨us, []⟩ (us ++ ds) (vs ++ dvs) Q E hr I.env0 (hb s us I.kIn hl) r2 h) fun r s' hq => ?_)
  cases r with
  | error e => exact hx pins σ H s e s' I hq
  | ok fl =>
    cases fl with
    | ret u => exact I.after hq
    | next => exact False.elim hq
    | brk => exact False.elim hq
    | cont => exact False.elim hq
theorem pe_call (F : FnOk X.prog X.w X.K X.mg X.base CX k f fd ps sp) (hr : Room k X.A) (hg : Gl X x) (hm : X.mg x = some (.ref f)) (hk : PySem.W.keepIn X.K (.ref f) = true) (hb : Binds X.K fd ps ds) (hd : Vals dvs ds) (hx : Passes CX X E)
    (ha : PA X (e :: es) t) (hdb : (x == ("__debug__" : Str)) = false := by decide) (he : starEach (e :: es) X.env = (false, eval e X.env) :: starEach es X.env := by rfl) (hpl : (backTo pos (starEach es X.env)).any (·.1) = false := by rfl) :
    PE X (.Call (.Name x p) (e :: es) [] pos) (tCall sp dvs E t) := by
  intro pins s σ H Q I h
  refine wpAny_Call_Name_kw (ld_glob I hg hm ?_ hdb)
  refine PySem.W.callWith_K (h₀ := X.base) I.ok.mod.kin hk (thn (ha pos pins s σ H _ I h) fun us s1 ⟨vs, H1, I1, r, q⟩ => ⟨I1.kIn, ?_⟩) he hpl
  exact run_fn F hr hb hd hx I1 r q
structure Mk (K : PySem.W.Frag) (C f : Addr) : Prop where
  makes : PySem.W.makesIn K C = true
  init : PySem.W.findIn K (.ref C) "__init__" = some (some (.ref f))
  fn : PySem.W.isFn K (.ref f) = true
  kp : PySem.W.keepIn K (.ref C) = true
end
section
variable {X : Cx} {CX : CXT} {k : Nat} {f C : Addr} {fd : FuncData} {ps ks : List Str} {sp : Sp} {E : XK} {x m : Str} {p pos apos kpos : Pos} {e o : Expr} {es : List Expr} {kws : List Keyword} {te ta : TE} {t tk : TA} {nm : Option Str}
structure KBinds (K : PySem.W.Frag) (fd : FuncData) (ps ks : List Str) (g : List Value → List Value → List Value) (gV : List V → List V → List V) : Prop where
  to : ∀ (s : Shared) (us ws : List Value), K.In s.heap → (g us ws).length = ps.length → BindsTo s fd ⟨us, ks.zip ws⟩ (ps.zip (g us ws))
  rel : ∀ {vs : List V} {us : List Value} {zs : List V} {ws : List Value}, Vals vs us → Vals zs ws → Vals (gV vs zs) (g us ws)
variable {g : List Value → List Value → List Value} {gV : List V → List V → List V}
end
structure FnScope (N P : List Str) (sc : Scope) : Prop where
  kind : sc.kind = .function
  co : sc.isCoroutine = false
  gen : sc.isGenerator = false
  nd : N.Nodup
  pre : N.take P.length = P
  par : ∀ x ∈ P, sc.names.lookup x = some .local ∨ sc.names.lookup x = some .cell
  nofree : ∀ y ∈ sc.names, y.2 ≠ .free
theorem bindL_out {kindOf : Str → Option NameKind} {x : Str} : ∀ {binds : List (Str × Value)} {m : Str → Option Value}, (∀ v, (x, v) ∉ binds) → bindL kindOf binds m x = m x
  | [], _, _ => rfl
  | (n, v) :: r, m, h => by
    unfold bindL
    rw [bindL_out fun w hw => h w (List.mem_cons_of_mem _ hw)]
    split
    · have : x ≠ n := by rintro rfl; exact h v List.mem_cons_self
      simp [this]
    · rfl
theorem bindC_out {kindOf : Str → Option NameKind} {x : Str} : ∀ {binds : List (Str × Value)} {m : Str → Option Value}, (∀ v, (x, v) ∉ binds) → bindC kindOf binds m x = m x
  | [], _, _ => rfl
  | (n, v) :: r, m, h => by
    unfold bindC
    rw [bindC_out fun w hw => h w (List.mem_cons_of_mem _ hw)]
    split
    · rfl
    · have : x ≠ n := by rintro rfl; exact h v List.mem_cons_self
      simp [this]
theorem bindL_get {kindOf : Str → Option NameKind} {x : Str} {v : Value} : ∀ {P : List Str} {vs : List Value} {i : Nat} {m : Str → Option Value}, P.Nodup → P[i]? = some x → vs[i]? = some v → kindOf x = some .local →
    bindL kindOf (P.zip vs) m x = some v
  | [], _, _, _, _, h, _, _ => by simp at h
  | _ :: _, [], _, _, _, _, h, _ => by simp at h
  | p :: P, w :: vs, 0, m, nd, h1, h2, hk => by
    simp at h1 h2; subst h1; subst h2
    show bindL kindOf ((p, w) :: P.zip vs) m p = _
    unfold bindL
    rw [bindL_out fun v hv => (List.nodup_cons.mp nd).1 (List.of_mem_zip hv).1, if_pos hk]
    simp
  | p :: P, w :: vs, i + 1, m, nd, h1, h2, hk => by
    show bindL kindOf ((p, w) :: P.zip vs) m x = _
    unfold bindL
    exact bindL_get (i := i) (List.nodup_cons.mp nd).2 (by simpa using h1) (by simpa using h2) hk
theorem bindC_get {kindOf : Str → Option NameKind} {x : Str} {v : Value} : ∀ {P : List Str} {vs : List Value} {i : Nat} {m : Str → Option Value}, P.Nodup → P[i]? = some x → vs[i]? = some v → kindOf x ≠ some .local →
    bindC kindOf (P.zip vs) m x = some v
  | [], _, _, _, _, h, _, _ => by simp at h
  | _ :: _, [], _, _, _, _, h, _ => by simp at h
  | p :: P, w :: vs, 0, m, nd, h1, h2, hk => by
    simp at h1 h2; subst h1; subst h2
    show bindC kindOf ((p, w) :: P.zip vs) m p = _
    unfold bindC
    rw [bindC_out fun v hv => (List.nodup_cons.mp nd).1 (List.of_mem_zip hv).1, if_neg hk]
    simp
  | p :: P, w :: vs, i + 1, m, nd, h1, h2, hk => by
    show bindC kindOf ((p, w) :: P.zip vs) m x = _
    unfold bindC
    exact bindC_get (i := i) (List.nodup_cons.mp nd).2 (by simpa using h1) (by simpa using h2) hk
noncomputable def start (N : List Str) (vs : List V) : St := vs.map some ++ List.replicate (N.length - vs.length) none
noncomputable def cxOf (CX : CXT) (P : Program) (w : World) (K : PySem.W.Frag) (mg : Str → Option Value) (base : Heap) (N : List Str) (qual : Str) (scope : Scope) (f : Addr) (cd : Value) (A : Around) (outer : List Env) (s : Shared) (H : Hp) (E : XK) : Cx where
  prog := P
  w := w
  K := K
  mg := mg
  base := base
  A := A.deeper (envOfC qual scope s.heap.objs.size f cd)
  N := N
  s₀ := s
  H₀ := H
  env := envOfC qual scope s.heap.objs.size f cd
  outer := outer
  stack := envOfC qual scope s.heap.objs.size f cd :: outer
  ex := []
  calm := true
  fn := fun _ => true
  pn := []
  xe := fun e s' => wpAny (model P w) (A.deeper (envOfC qual scope s.heap.objs.size f cd)) (leaving (envOfC qual scope s.heap.objs.size f cd) e) (fun _ s'' => CX outer H s E e s'') (fun e' s'' => CX outer H s E e' s'') s'
theorem cell_has {sc : Scope} {n : Nat} {x : Str} (h : sc.names.lookup x = some .cell) : ∃ c, (cellsFrom n sc.names []).lookup x = some c := by
  have q := PySem.W.cellsFrom_some sc.names n [] (.inl h)
  exact Option.isSome_iff_exists.mp q
theorem inv_start {CX : CXT} {P : Program} {w : World} {K : PySem.W.Frag} {mg : Str → Option Value} {base : Heap} {N ps : List Str} {qual : Str} {scope : Scope} {f : Addr} {cd : Value} {A : Around} {outer : List Env} {s s1 : Shared} {H : Hp} {E : XK} {us : List Value} {vs : List V}
    (S : FnScope N ps scope) (hd : A.handled = none) (e0 : Env0 P w K mg base A outer s H) (hl : vs.length = ps.length) (r : Vals vs us)
    (x : InCallC s s.heap.objs.size (bindL (envOfC qual scope s.heap.objs.size f cd).kindOf (ps.zip us) fun _ => none) (cellsFrom (s.heap.objs.size + 1) scope.names []) (bindC (envOfC qual scope s.heap.objs.size f cd).kindOf (ps.zip us) fun _ => none) s1) :
    Inv (cxOf CX P w K mg base N qual scope f cd A outer s H E) [] (start N vs) H s1 := by
  have hpl : ps.length ≤ N.length := by have := congrArg List.length S.pre; rw [List.length_take] at this; omega
  obtain ⟨h1, tk, rfl, hk⟩ := x.done
  have noA : ∀ b : Addr, b ∉ (cxOf CX P w K mg base N qual scope f cd A outer s H E).ex := fun b z => absurd (show b ∈ ([] : List Addr) from z) (by simp)
  refine ⟨⟨e0.mod, S.kind, rfl, rfl, Nat.le_refl _, fun y z c h1 h2 => ?_, fun y hy => ?_, fun y c _ h => ?_, fun _ => hd, Around.frames_deeper e0.frames, .inr ⟨rfl, rfl⟩, fun b z => absurd z (noA b), e0.bs, e0.bsz, fun b _ _ => noA b, fun b z => absurd z (noA b), e0.funs, e0.frf⟩,
    rfl, e0.bare, Un.kept hk, ⟨_, x.toInCall.ns, fun i y v h1 h2 h3 => ?_⟩, fun y c h => ⟨_, x.cell y c h⟩, e0.hok.fresh (Nat.le_refl _), fun y c h => ?_, fun p hp => absurd (show p ∈ ([] : List (Addr × Obj)) from hp) (by simp), e0.hok.kept hk, ?_⟩
  · exact name_of_addr x.apart (PySem.mem_of_lookup h1) (PySem.mem_of_lookup h2)
  · have hy : scope.names.lookup y = some .cell ∨ scope.names.lookup y = some .free := hy
    rcases hy with hy | hy
    · exact cell_has hy
    · exact absurd rfl (S.nofree _ (PySem.mem_of_lookup hy))
  · exact Nat.le_of_lt (x.above y c (PySem.mem_of_lookup h))
  · have hi : i < vs.length := by
      unfold start at h2
      by_cases hi : i < vs.length
      · exact hi
      · rw [List.getElem?_append_right (by simpa using hi)] at h2
        rw [List.getElem?_replicate] at h2
        split at h2 <;> cases h2
    have ha : vs[i]? = some v := by
      unfold start at h2
      rw [List.getElem?_append_left (by simpa using hi), List.getElem?_map] at h2
      cases e : vs[i]? with
      | none => rw [e] at h2; cases h2
      | some a => rw [e] at h2; cases h2; rfl
    obtain ⟨u, hu, rv⟩ := r.get ha
    have hp : ps[i]? = some y := by
      rw [← S.pre, List.getElem?_take_of_lt (by omega)]; exact h1
    have ndP : ps.Nodup := by rw [← S.pre]; exact S.nd.sublist (List.take_sublist _ _)
    refine ⟨u, rv, ?_⟩
    rcases S.par y (List.mem_of_getElem? hp) with k | k
    · exact .inl ⟨k, bindL_get ndP hp hu k⟩
    · obtain ⟨c, e⟩ := cell_has (n := s.heap.objs.size + 1) k
      refine .inr ⟨.inl k, c, e, ?_⟩
      have q := x.cell y c e
      rw [bindC_get ndP hp hu (by show scope.names.lookup y ≠ _; rw [k]; decide)] at q
      exact q
  · exact e0.hok.fresh (Nat.le_of_lt (x.above y c (PySem.mem_of_lookup h)))
  · unfold start
    show _ = N.length
    rw [List.length_append, List.length_map, List.length_replicate]
    omega
theorem fn_of {CX : CXT} {P : Program} {w : World} {K : PySem.W.Frag} {mg : Str → Option Value} {base : Heap} {k : Nat} {f : Addr} {name qual : Str} {params : Arguments} {body : List Stmt} {scope : Scope} {dV kV doc pm cdv ct oc : Value} {an od : Option Addr}
    {osl : Array (Option Value)} {N ps : List Str} {sp : Sp} (lk : K.lookup f = some ⟨oc, od, .func (PySem.W.fnOf name qual params body scope dV kV doc pm an cdv ct), osl⟩) (hcd : PySem.W.codeIn K cdv qual = true) (S : FnScope N ps scope)
    (len : ∀ vs H Q E, sp vs H Q E → vs.length = ps.length)
    (hbody : ∀ (A : Around) (outer : List Env) (s : Shared) (H : Hp) (vs : List V) (Q : VK) (E : XK), Room k (A.deeper (envOfC qual scope s.heap.objs.size f cdv)) → sp vs H Q E →
      ∃ t, PSs (cxOf CX P w K mg base N qual scope f cdv A outer s H E) body t ∧ t { nx := fun _ H' => Q .non H', rt := Q } (start N vs) H) :
    FnOk P w K mg base CX (k + 1) f (PySem.W.fnOf name qual params body scope dV kV doc pm an cdv ct) ps sp := by
  refine ⟨len, fun A outer s H args us vs Q E hr e0 hb r hsp => ?_⟩
  have hl := len _ _ _ _ hsp
  have KX : K.In s.heap := e0.mod.kin.keeps fun b o e => (e0.bs b o e).1
  have lim : s.heap.NoLimit := e0.mod.nolimit.keeps fun b o e => (e0.bs b o e).1
  have hkind : ∀ y ∈ ps.zip us, scope.names.lookup y.1 = some .local ∨ (scope.names.lookup y.1 = some .cell ∧ ((cellsFrom (s.heap.objs.size + 1) scope.names []).lookup y.1).isSome = true) := fun ⟨n, v⟩ hy => by
    rcases S.par n (List.of_mem_zip hy).1 with q | q
    · exact .inl q
    · exact .inr ⟨q, PySem.W.cellsFrom_some _ _ _ (.inl q)⟩
  refine codeAny_call_function hr.depth (KX _ _ lk) rfl S.co S.gen rfl (PySem.W.codeRec_of KX hcd) (hb _ _ _ _ ?_)
  refine wpAny_newFunctionEnv_cells S.kind hkind fun env he s1 x => ?_
  subst he
  refine ⟨lim.keeps x.toInCall.keep, codeAny_func ?_⟩
  obtain ⟨t, ht, hq⟩ := hbody A outer s H vs Q E (hr.deeper _) hsp
  have I : Inv (cxOf CX P w K mg base N qual scope f cdv A outer s H E) [] (start N vs) H s1 := inv_start S hr.hd e0 hl r x
  refine wpAny_mono (ht [] s1 (start N vs) H _ I hq) (fun fl s' hs => ?_) fun e s' hs => hs
  have fin : ∀ {σ' : St} {H' : Hp} {v : V} {u : Value}, Inv (cxOf CX P w K mg base N qual scope f cdv A outer s H E) [] σ' H' s' → RelV v u → Q v H' → CE outer P w H s Q u s' :=
    fun {σ' H' v u} J rv q => ⟨v, H', J.os, J.bare, J.base, J.hok, rv, q⟩
  cases fl with
  | ret u =>
    obtain ⟨v, σ', H', J, rv, q⟩ := hs
    exact fin J rv q
  | next =>
    obtain ⟨σ', H', J, q⟩ := hs
    exact fin (v := V.non) (u := Value.none) J rfl q
  | brk =>
    obtain ⟨_, _, _, q⟩ := hs
    exact False.elim q
  | cont =>
    obtain ⟨_, _, _, q⟩ := hs
    exact False.elim q
end L2
namespace L2
open PySem PySem.Spec PyProof.Rows
section
variable {X : Cx} {x : Str} {p pos : Pos} {e : Expr} {es : List Expr} {t : TA} {id T : String} {r : List V → Hp → VK → Prop}
noncomputable def tCB (r : List V → Hp → VK → Prop) (t : TA) : TE := fun σ H Q => t σ H fun vs H1 => r vs H1 Q
theorem pe_callB (hc : CallR X (.builtin id) r) (hg : Gl X x) (hm : X.mg x = none) (hv : bootBuiltins x = some (.builtin id)) (ha : PA X (e :: es) t) (hn : x ≠ "__name__" := by decide) (hdb : (x == ("__debug__" : Str)) = false := by decide)
    (he : starEach (e :: es) X.env = (false, eval e X.env) :: starEach es X.env := by rfl) (hpl : (backTo pos (starEach es X.env)).any (·.1) = false := by rfl) : PE X (.Call (.Name x p) (e :: es) [] pos) (tCB r t) := by
  intro pins s σ H Q I h
  refine wpAny_Call_Name_kw (ld_blt I hg hm hv ?_ hn hdb)
  exact PyProof.Rows.callWith_builtin1 (thn (ha pos pins s σ H _ I h) fun us s1 ⟨vs, H1, I1, r1, q1⟩ => hc pins s1 σ H1 vs us Q I1 r1 q1) he hpl
theorem pe_callTy (hc : CallR X (.type T) r) (hg : Gl X x) (hm : X.mg x = none) (hv : bootBuiltins x = some (.type T)) (ha : PA X (e :: es) t) (hn : x ≠ "__name__" := by decide) (hdb : (x == ("__debug__" : Str)) = false := by decide)
    (he : starEach (e :: es) X.env = (false, eval e X.env) :: starEach es X.env := by rfl) (hpl : (backTo pos (starEach es X.env)).any (·.1) = false := by rfl) : PE X (.Call (.Name x p) (e :: es) [] pos) (tCB r t) := by
  intro pins s σ H Q I h
  refine wpAny_Call_Name_kw (ld_blt I hg hm hv ?_ hn hdb)
  exact PyProof.Rows.callWith_type1 (thn (ha pos pins s σ H _ I h) fun us s1 ⟨vs, H1, I1, r1, q1⟩ => hc pins s1 σ H1 vs us Q I1 r1 q1) he hpl
end
end L2
namespace HT
open PySem PyProof.Rows
section
open PySem.SeqAt
open PySem.AutoSeq1 (wpAny_loadPart')
open PySem.MeetsSeq PySem.MeetsSeq2 PySem.MeetsSeq3
end
section
variable {prog : Program} {w : World} {A : Around} {E : Value → Shared → Prop} {s : Shared}
noncomputable def sIx (n d : Nat) : Option Int → Nat
  | none => d
  | some v => if v < 0 then (v + (n : Int)).toNat else min v.toNat n
theorem sIx_none (n d : Nat) : sIx n d none = d := rfl
theorem sIx_nat (n d k : Nat) : sIx n d (some (k : Int)) = min k n := by
  show (if (k : Int) < 0 then ((k : Int) + (n : Int)).toNat else min (k : Int).toNat n) = min k n
  rw [if_neg (by omega), Int.toNat_natCast]
end
end HT
namespace L2
open PySem PySem.Spec PyProof.Rows
noncomputable abbrev TO := St → Hp → (Option Int → Hp → Prop) → Prop
noncomputable def PO (X : Cx) (e : Option Expr) (t : TO) : Prop :=
  ∀ (pins : List (Addr × Obj)) (s : Shared) (σ : St) (H : Hp) (Q : Option Int → Hp → Prop), Inv X pins σ H s → t σ H Q →
    wpAny (model X.prog X.w) X.A (evalPart e X.env) (fun u s' => ∃ o H', Inv X pins σ H' s' ∧ IsPart u o ∧ Q o H') X.xe s
noncomputable def tNoPart : TO := fun _ H Q => Q none H
noncomputable def tPart (t : TE) : TO := fun σ H Q => t σ H fun x H1 => ∃ i, x = .int i ∧ Q (some i) H1
section
variable {X : Cx} {e : Expr} {te : TE} {lo hi : Option Expr} {tl th : TO} {pos p2 : Pos}
theorem po_none : PO X none tNoPart := by
  intro pins s σ H Q I h
  rw [evalPart_none]
  exact wpAny_pure ⟨none, H, I, .none, h⟩
theorem po_some (h : PE X e te) : PO X (some e) (tPart te) := by
  intro pins s σ H Q I hw
  rw [evalPart_some]
  refine thn (h pins s σ H _ I hw) fun u s1 ⟨x, H1, I1, r1, q1⟩ => ?_
  obtain ⟨i, rfl, q⟩ := q1
  obtain ⟨t, rfl⟩ := r1
  exact ⟨some i, H1, I1, .int i t, q⟩
noncomputable def SlR (X : Cx) (r : V → Option Int → Option Int → Hp → VK → Prop) : Prop :=
  ∀ (pins : List (Addr × Obj)) (s : Shared) (σ : St) (H : Hp) (x : V) (v vl vu : Value) (lo hi : Option Int) (sl : Addr) (Q : VK), Inv X pins σ H s → RelV x v → s.heap.IsSliceOf sl vl vu .none → IsPart vl lo → IsPart vu hi → r x lo hi H Q →
    ∃ T id, typeLookup (.type T) "__getitem__" = pure (some (.builtin id)) ∧ s.TypeIs v T ∧ wpAny (model X.prog X.w) X.A (getItem v (.ref sl)) (EP X pins σ Q) X.xe s
theorem SlR.or {r r' : V → Option Int → Option Int → Hp → VK → Prop} (h : SlR X r) (h' : SlR X r') : SlR X (fun x lo hi H Q => r x lo hi H Q ∨ r' x lo hi H Q) := by
  intro pins s σ H x v vl vu lo hi sl Q I rx hs pl pu q
  rcases q with q | q
  · exact h pins s σ H x v vl vu lo hi sl Q I rx hs pl pu q
  · exact h' pins s σ H x v vl vu lo hi sl Q I rx hs pl pu q
noncomputable def tSl (r : V → Option Int → Option Int → Hp → VK → Prop) (te : TE) (tl th : TO) : TE := fun σ H Q => te σ H fun x H1 => tl σ H1 fun l H2 => th σ H2 fun u H3 => r x l u H3 Q
theorem pe_slice {r : V → Option Int → Option Int → Hp → VK → Prop} (hr : SlR X r) (he : PE X e te) (hl : PO X lo tl) (hu : PO X hi th) : PE X (.Subscript e (.Slice lo hi none p2) pos) (tSl r te tl th) := by
  intro pins s σ H Q I h
  refine Subscript_ (thn (he pins s σ H _ I h) fun v s1 ⟨x, H1, I1, r1, q1⟩ => ?_)
  refine wpAny_Slice (thn (hl pins s1 σ H1 _ I1 q1) fun vl s2 ⟨l, H2, I2, pl, q2⟩ => thn (hu pins s2 σ H2 _ I2 q2) fun vu s3 ⟨u, H3, I3, pu, q3⟩ => ?_)
  rw [evalPart_none]
  refine wpAny_pure ?_
  have I4 : Inv X pins σ H3 { s3 with heap := s3.heap.push { cls := .type "slice", data := .fields #[vl, vu, .none] } } := I3.kept (t' := s3.toks) fun b ob q => Heap.get?_push_of_some _ q
  obtain ⟨T, id, hT, ht, hg⟩ := hr pins { s3 with heap := s3.heap.push { cls := .type "slice", data := .fields #[vl, vu, .none] } } σ H3 x v vl vu l u s3.heap.objs.size Q I4 r1 (Heap.IsSliceOf.new ..) pl pu q3
  show wpAny (model X.prog X.w) X.A (subscriptTail e (.Slice lo hi none p2) v (.ref s3.heap.objs.size)) (EP X pins σ Q) X.xe { s3 with heap := s3.heap.push { cls := .type "slice", data := .fields #[vl, vu, .none] } }
  exact tail_any (ops := [.ref s3.heap.objs.size, v]) ht hT hg (by with_unfolding_all rfl)
noncomputable def cutV (xs : List V) (lo hi : Option Int) : List V := (xs.drop (HT.sIx xs.length 0 lo)).take (HT.sIx xs.length xs.length hi - HT.sIx xs.length 0 lo)
theorem cutV_length (xs : List V) (lo hi : Option Int) : (cutV xs lo hi).length ≤ xs.length := by
  unfold cutV
  rw [List.length_take, List.length_drop]
  omega
end
end L2
namespace L2
open PySem PySem.Spec PyProof.Rows
noncomputable def ixN (n : Nat) (i : Int) : Option Nat := if 0 ≤ i then (if i < n then some i.toNat else none) else if -(n : Int) ≤ i then some (i + n).toNat else none
noncomputable def atI {α : Type} (xs : List α) (i : Int) : Option α := (ixN xs.length i).bind fun j => xs[j]?
theorem ixN_seq {n : Nat} {i : Int} {j : Nat} (h : ixN n i = some j) : seqIndex? i n = some j ∧ j < n ∧ -(n : Int) ≤ i ∧ i < n := by
  unfold ixN at h
  by_cases h0 : 0 ≤ i
  · rw [if_pos h0] at h
    by_cases h1 : i < n
    · rw [if_pos h1] at h
      have e : i.toNat = j := Option.some.inj h
      exact ⟨by rw [seqIndex_of h0 h1, e], by omega, by omega, h1⟩
    · rw [if_neg h1] at h; cases h
  · rw [if_neg h0] at h
    by_cases h1 : -(n : Int) ≤ i
    · rw [if_pos h1] at h
      have e : (i + n).toNat = j := Option.some.inj h
      exact ⟨by rw [seqIndex_neg (by omega) h1, e], by omega, h1, by omega⟩
    · rw [if_neg h1] at h; cases h
theorem atI_get {α : Type} {xs : List α} {i : Int} {v : α} (h : atI xs i = some v) : ∃ j, seqIndex? i xs.length = some j ∧ xs[j]? = some v ∧ j < xs.length ∧ -(xs.length : Int) ≤ i ∧ i < xs.length := by
  unfold atI at h
  cases e : ixN xs.length i with
  | none => rw [e] at h; cases h
  | some j =>
    rw [e] at h
    obtain ⟨h1, h2, h3, h4⟩ := ixN_seq e
    exact ⟨j, h1, h, h2, h3, h4⟩
theorem atI_nat {α : Type} {xs : List α} {j : Nat} {v : α} (h : xs[j]? = some v) : atI xs (j : Int) = some v := by
  have hj : j < xs.length := (List.getElem?_eq_some_iff.mp h).1
  have e : ixN xs.length (j : Int) = some j := by
    unfold ixN
    rw [if_pos (by omega), if_pos (by omega)]; simp
  unfold atI; rw [e]; exact h
noncomputable def PlainIx (b : Expr) : Prop := ∀ o i, subscripted b false o i = operate [o, i] (getItem o i)
noncomputable def IxR (X : Cx) (r : R2) : Prop :=
  ∀ (value slice : Expr) (pins : List (Addr × Obj)) (s : Shared) (σ : St) (H : Hp) (x y : V) (v u : Value) (Q : VK), Inv X pins σ H s → RelV x v → RelV y u → r x y H Q →
    subscripted slice false v u = operate [v, u] (getItem v u) → wpAny (model X.prog X.w) X.A (subscriptTail value slice v u) (EP X pins σ Q) X.xe s
noncomputable def MtR (X : Cx) (id : String) (r : V → List V → Hp → VK → Prop) : Prop :=
  ∀ (pins : List (Addr × Obj)) (s : Shared) (σ : St) (H : Hp) (x : V) (xs : List V) (v : Value) (us : List Value) (Q : VK), Inv X pins σ H s → RelV x v → Vals xs us → r x xs H Q →
    wpAny (model X.prog X.w) X.A (call (.builtin id) (v :: us)) (EP X pins σ Q) X.xe s
section
variable {X : Cx} {a b : Expr} {ta tb : TE} {pos : Pos}
theorem IxR.or {r r' : R2} (h : IxR X r) (h' : IxR X r') : IxR X (fun x y H Q => r x y H Q ∨ r' x y H Q) := by
  intro value slice pins s σ H x y v u Q I rx ry q hs
  rcases q with q | q
  · exact h value slice pins s σ H x y v u Q I rx ry q hs
  · exact h' value slice pins s σ H x y v u Q I rx ry q hs
theorem MtR.or {id : String} {r r' : V → List V → Hp → VK → Prop} (h : MtR X id r) (h' : MtR X id r') : MtR X id (fun x xs H Q => r x xs H Q ∨ r' x xs H Q) := by
  intro pins s σ H x xs v us Q I rx rs q
  rcases q with q | q
  · exact h pins s σ H x xs v us Q I rx rs q
  · exact h' pins s σ H x xs v us Q I rx rs q
theorem pe_ix {r : R2} (hr : IxR X r) (ha : PE X a ta) (hb : PE X b tb) (hs : PlainIx b) : PE X (.Subscript a b pos) (tOp r ta tb) := by
  intro pins s σ H Q I h
  exact Subscript_ (binT ha hb I h fun v u s2 x y H2 I2 rx ry q => hr a b pins s2 σ H2 x y v u Q I2 rx ry q (hs _ _))
noncomputable def rIxL (K : PySem.W.Frag) : R2 := fun x y H Q => ∃ p xs i v, x = .ref p ∧ y = .int i ∧ SqL K H p xs ∧ atI xs i = some v ∧ Q v H
noncomputable def rIxT (K : PySem.W.Frag) : R2 := fun x y H Q => ∃ p xs i v, x = .ref p ∧ y = .int i ∧ SqT K H p xs ∧ atI xs i = some v ∧ Q v H
noncomputable def rIxS : R2 := fun x y H Q => ∃ z i c, x = .str z ∧ y = .int i ∧ z.length ≤ sizeLine ∧ atI z.cps.toList i = some c ∧ Q (.str ⟨#[c]⟩) H
theorem ix_list : IxR X (rIxL X.K) := by
  intro value slice pins s σ H x y v u Q I rx ry h hs
  obtain ⟨p, xs, i, z, rfl, rfl, hq, he, q⟩ := h
  cases rx
  obtain ⟨t, rfl⟩ := ry
  obtain ⟨its, r, pl, hz⟩ := I.list hq
  obtain ⟨j, h1, h2, h3, h4, h5⟩ := atI_get he
  obtain ⟨w, ew, rw'⟩ := r.get h2
  have hl := r.length
  have hn := line63
  have fin : EP X pins σ Q w s := ⟨z, H, I, rw', q⟩
  by_cases h0 : 0 ≤ i
  · have hj : i.toNat = j := by
      rw [seqIndex_of h0 h5] at h1
      exact Option.some.inj h1
    exact item_listR pl.isList h0 (by omega) (by rw [hj]; simpa using ew) fin hs
  · have hj : (i + (its.toArray.size : Int)).toNat = j := by
      rw [seqIndex_neg (by omega) h4] at h1
      rw [List.size_toArray, ← hl]
      exact Option.some.inj h1
    exact subscriptTail_builtinR (x := w) pl.isList.typeIs slot_list_getitem.lookup
      (wpAny_getItem_list_neg (Q := fun r s' => r = w ∧ EP X pins σ Q r s') pl.isList (by omega) (by rw [List.size_toArray] <;> omega) (by omega) (by rw [hj]; simpa using ew) ⟨rfl, fin⟩) hs
theorem ix_tup : IxR X (rIxT X.K) := by
  intro value slice pins s σ H x y v u Q I rx ry h hs
  obtain ⟨p, xs, i, z, rfl, rfl, hq, he, q⟩ := h
  cases rx
  obtain ⟨t, rfl⟩ := ry
  obtain ⟨its, r, pl, hz⟩ := I.tuple hq
  obtain ⟨j, h1, h2, h3, h4, h5⟩ := atI_get he
  obtain ⟨w, ew, rw'⟩ := r.get h2
  have hl := r.length
  have hn := line63
  have fin : EP X pins σ Q w s := ⟨z, H, I, rw', q⟩
  exact subscriptTail_builtinR (x := w) pl.typeIs slot_tuple_getitem.lookup
    (getItem_tuple (j := j) (Q := fun r s' => r = w ∧ EP X pins σ Q r s') pl (by omega) (by omega) (by rw [List.size_toArray, ← hl]; exact h1) (by simpa using ew) ⟨rfl, fin⟩) hs
theorem ix_str : IxR X rIxS := by
  intro value slice pins s σ H x y v u Q I rx ry h hs
  obtain ⟨z, i, c, rfl, rfl, hz, he, q⟩ := h
  obtain ⟨t, rfl⟩ := rx
  obtain ⟨t', rfl⟩ := ry
  obtain ⟨j, h1, h2, h3, h4, h5⟩ := atI_get he
  have hl : z.cps.toList.length = z.length := by simp [Str.length]
  rw [hl] at h1 h4 h5
  have hn := line63
  exact tail_any (typeIs_str s z t) slot_str_getitem.lookup (getItem_str (c := c) (by
    have e1 : decide (i < -(2 ^ 63 : Int)) = false := decide_eq_false (by omega)
    have e2 : decide (i ≥ 2 ^ 63) = false := decide_eq_false (by omega)
    rw [e1, e2, Bool.or_false]) (by rw [h1]; simpa using h2) ⟨.str ⟨#[c]⟩, H, I.tok _, ⟨_, rfl⟩, q⟩) hs
theorem Inv.lst {pins : List (Addr × Obj)} {σ : St} {H : Hp} {s : Shared} {p : Addr} {xs : List V} (I : Inv X pins σ H s) (h : H p = some (.lst xs)) :
    ∃ (its : List Value) (n : Nat), Vals xs its ∧ s.heap.get? p = some { cls := .type "list", data := .seq its.toArray n } ∧ xs.length ≤ sizeLine := by
  obtain ⟨z, its, n, r, e⟩ := I.hok p _ h
  exact ⟨its, n, r, e, z⟩
theorem slice_bounds (lo hi : Option Int) (n : Nat) : (sliceBounds lo hi none n).1 = ((HT.sIx n 0 lo : Nat) : Int) ∧ (sliceBounds lo hi none n).2.1 = ((HT.sIx n n hi : Nat) : Int) ∧ (sliceBounds lo hi none n).2.2 = 1 := by
  refine ⟨?_, ?_, rfl⟩
  · cases lo with
    | none => simp [sliceBounds, HT.sIx]
    | some i =>
      simp only [sliceBounds, HT.sIx, Option.getD_none, show (1 : Int) > 0 by decide, if_true]
      by_cases h : i < 0
      · simp only [h, if_true] <;> omega
      · simp only [h, if_false] <;> omega
  · cases hi with
    | none => simp [sliceBounds, HT.sIx]
    | some i =>
      simp only [sliceBounds, HT.sIx, Option.getD_none, show (1 : Int) > 0 by decide, if_true]
      by_cases h : i < 0
      · simp only [h, if_true] <;> omega
      · simp only [h, if_false] <;> omega
theorem slicePick_cut (its : List Value) (lo hi : Option Int) : slicePick its.toArray lo hi none = ((its.drop (HT.sIx its.length 0 lo)).take (HT.sIx its.length its.length hi - HT.sIx its.length 0 lo)).toArray := by
  obtain ⟨h1, h2, h3⟩ := slice_bounds lo hi its.toArray.size
  unfold slicePick
  rw [h1, h2, h3]
  simp only [sliceRange_one, pick_run, List.size_toArray] <;> rfl
noncomputable def rSlL (K : PySem.W.Frag) : V → Option Int → Option Int → Hp → VK → Prop := fun x lo hi H Q => ∃ a xs, x = .ref a ∧ SqL K H a xs ∧ ∀ p, H p = none → Q (.ref p) (upd H p (.lst (cutV xs lo hi)))
theorem sl_list : SlR X (rSlL X.K) := by
  intro pins s σ H x v vl vu lo hi sl Q I rx hs pl pu h
  obtain ⟨a, xs, rfl, hx, q⟩ := h
  cases rx
  obtain ⟨its, r, ht, hz⟩ := I.list hx
  have hlen := r.length
  refine ⟨"list", _, slot_list_getitem.lookup, ht.isList.typeIs, ?_⟩
  refine wpAny_getItem_list_slice ht.isList hs pl pu .none (by simp) ?_ (by rw [List.size_toArray] <;> omega)
  rw [slicePick_cut, ← hlen]
  refine ⟨.ref s.heap.objs.size, _, I.laid (t' := s.toks) (o := .lst (cutV xs lo hi)) (fun b ob q => Heap.get?_push_of_some _ q) (Nat.le_refl _) ?_, rfl, q _ (I.hok.fresh (Nat.le_refl _))⟩
  exact ⟨Nat.le_trans (cutV_length xs lo hi) hz, _, 0, (r.drop (HT.sIx xs.length 0 lo)).take (HT.sIx xs.length xs.length hi - HT.sIx xs.length 0 lo), Heap.get?_push_size _ rfl⟩
theorem call_len_seq : CallR X (.builtin "len") (fun xs H Q => ∃ p ys, xs = [.ref p] ∧ (SqL X.K H p ys ∨ SqT X.K H p ys) ∧ Q (.int ys.length) H) := by
  intro pins s σ H xs us Q I r h
  obtain ⟨p, ys, rfl, hq, q⟩ := h
  obtain ⟨u, rfl, rx⟩ := vals1 r
  cases rx
  have hn := line63
  rcases hq with hq | hq
  · obtain ⟨its, r', pl, hz⟩ := I.list hq
    have hlen := r'.length
    exact Calls.call_len_list pl.isList (by simp only [List.size_toArray] <;> omega) ⟨.int ys.length, H, I.tok _, ⟨s.toks + 1, by rw [List.size_toArray, hlen]⟩, q⟩
  · obtain ⟨its, r', pl, hz⟩ := I.tuple hq
    have hlen := r'.length
    exact len_tuple pl (by simp only [List.size_toArray] <;> omega) ⟨.int ys.length, H, I.tok _, ⟨s.toks + 1, by rw [List.size_toArray, hlen]⟩, q⟩
theorem call_len_str : CallR X (.builtin "len") (fun xs H Q => ∃ z, xs = [.str z] ∧ z.length ≤ sizeLine ∧ Q (.int z.length) H) := by
  intro pins s σ H xs us Q I r h
  obtain ⟨z, rfl, hz, q⟩ := h
  obtain ⟨u, rfl, t, rfl⟩ := vals1 r
  have hn := line63
  exact len_str (by omega) ⟨.int z.length, H, I.tok _, ⟨_, rfl⟩, q⟩
theorem CallR.or {f : Value} {r r' : List V → Hp → VK → Prop} (h : CallR X f r) (h' : CallR X f r') : CallR X f (fun xs H Q => r xs H Q ∨ r' xs H Q) := by
  intro pins s σ H xs us Q I rs q
  rcases q with q | q
  · exact h pins s σ H xs us Q I rs q
  · exact h' pins s σ H xs us Q I rs q
theorem call_list_of : CallR X (.type "list") (fun xs H Q => ∃ p ys, xs = [.ref p] ∧ (SqL X.K H p ys ∨ SqT X.K H p ys) ∧ ∀ l, H l = none → Q (.ref l) (upd H l (.lst ys))) := by
  intro pins s σ H xs us Q I r h
  obtain ⟨p, ys, rfl, hq, q⟩ := h
  obtain ⟨u, rfl, rx⟩ := vals1 r
  cases rx
  have fin : ∀ (its : List Value), Vals ys its → ys.length ≤ sizeLine → ∀ (h' : Heap) (c' : Nat), (∀ b o', s.heap.get? b = some o' → h'.get? b = some o') →
      h'.get? s.heap.objs.size = some { cls := .type "list", dict := none, data := .seq its.toArray c', slots := #[] } → EP X pins σ Q (.ref s.heap.objs.size) { s with heap := h' } := fun its r' hz h' c' kp e =>
    ⟨.ref s.heap.objs.size, _, I.laid (t' := s.toks) kp (Nat.le_refl _) (show ObjOk X.prog X.w _ h' _ (.lst ys) from ⟨hz, its, c', r', e⟩), rfl, q _ (I.hok.fresh (Nat.le_refl _))⟩
  rcases hq with hq | hq
  · obtain ⟨its, r', pl, hz⟩ := I.list hq
    have hlen := r'.length
    obtain ⟨o, ho, hc, n, hd⟩ := pl.isList
    exact call_list_seq p (.inl rfl) ho hc hd (fun h' c' kp e => fin its r' hz h' c' kp e) (by simp only [List.size_toArray] <;> omega)
  · obtain ⟨its, r', pl, hz⟩ := I.tuple hq
    have hlen := r'.length
    obtain ⟨o, ho, hc, n, hd⟩ := pl
    exact call_list_seq p (.inr rfl) ho hc hd (fun h' c' kp e => fin its r' hz h' c' kp e) (by simp only [List.size_toArray] <;> omega)
noncomputable def tyV (K : PySem.W.Frag) (T : String) (x : V) (H : Hp) : Prop := match x with
  | .str _ => T = "str"
  | .int _ => T = "int"
  | .ref p => (T = "list" ∧ ∃ xs, SqL K H p xs) ∨ (T = "tuple" ∧ ∃ o, K.lookup p = some o ∧ o.cls = .type "tuple" ∧ o.dict = none) ∨
      (T = "dict" ∧ ((∃ kvs, H p = some (.dK kvs)) ∨ ∃ kvs, H p = some (.dT kvs))) ∨ (T = "set" ∧ ∃ S n, H p = some (.set S n))
  | _ => False
theorem tyV_is {pins : List (Addr × Obj)} {σ : St} {H : Hp} {s : Shared} {T : String} {x : V} {v : Value} (I : Inv X pins σ H s) (r : RelV x v) (ty : tyV X.K T x H) :
    s.TypeIs v T ∧ ∀ a, v = .ref a → ∃ ob, s.heap.get? a = some ob ∧ ob.dict = none := by
  cases x with
  | str z =>
    obtain ⟨t, rfl⟩ := r
    cases (show T = "str" from ty)
    exact ⟨typeIs_str s z t, fun _ e => nomatch e⟩
  | int i =>
    obtain ⟨t, rfl⟩ := r
    cases (show T = "int" from ty)
    exact ⟨typeIs_int s i t, fun _ e => nomatch e⟩
  | ref p =>
    cases r
    rcases ty with ⟨rfl, xs, hq⟩ | ⟨rfl, o, hk, hc, hd⟩ | ⟨rfl, hk⟩ | ⟨rfl, S, n, hk⟩
    · obtain ⟨its, _, pl, _⟩ := I.list hq
      refine ⟨pl.isList.typeIs, fun a e => ?_⟩
      cases e
      obtain ⟨o, n, e, c, hd, _⟩ := pl
      exact ⟨o, e, hd⟩
    · refine ⟨⟨o, I.kIn p o hk, hc⟩, fun a e => ?_⟩
      cases e
      exact ⟨o, I.kIn _ o hk, hd⟩
    · have z : ∃ o, s.heap.get? p = some o ∧ o.ExactDict := by
        rcases hk with ⟨kvs, hk⟩ | ⟨kvs, hk⟩
        · obtain ⟨_, _, _, _, o, _, _, e, ex, _⟩ := I.hok p _ hk
          exact ⟨o, e, ex⟩
        · obtain ⟨_, _, _, _, o, _, _, e, ex, _⟩ := I.hok p _ hk
          exact ⟨o, e, ex⟩
      obtain ⟨o, e, ex⟩ := z
      refine ⟨⟨o, e, ex.1⟩, fun a e2 => ?_⟩
      cases e2
      exact ⟨o, e, ex.2.1⟩
    · obtain ⟨o, _, _, _, e, ex, _⟩ := I.hok p _ hk
      refine ⟨⟨o, e, ex.1⟩, fun a e2 => ?_⟩
      cases e2
      exact ⟨o, e, ex.2.1⟩
  | _ => exact False.elim ty
noncomputable def tBM (K : PySem.W.Frag) (T : String) (r : V → List V → Hp → VK → Prop) (to : TE) (t : TA) : TE := fun σ H Q => to σ H fun x H1 => tyV K T x H1 ∧ t σ H1 fun xs H2 => r x xs H2 Q
variable {o e : Expr} {es : List Expr} {to : TE} {t : TA} {name : Str} {apos cpos : Pos} {T id : String} {r : V → List V → Hp → VK → Prop}
theorem pe_bm (pa : PlainAttrs T) (slot : Slot T name id) (hty : typeOf (.builtin id) = pure (.type "method_descriptor")) (hm : MtR X id r) (ho : PE X o to) (ha : PA X (e :: es) t)
    (hbase : attributeBase o name X.env (eval o X.env) = eval o X.env := by rfl)
    (hfew : ((backTo cpos (starEach (e :: es) X.env)).all (fun x => !x.1) && (backToKw cpos (keywordEach [] X.env)).all (fun x => x.1.isSome)
      && decide ((e :: es).length + ([] : List Keyword).length + (if ([] : List Keyword).isEmpty then 0 else 1) < 30)) = true := by rfl)
    (hline : (apos.endLine == cpos.line) = true := by rfl) (hs : starEach (e :: es) X.env = (false, eval e X.env) :: starEach es X.env := by rfl) (hplain : (backTo cpos (starEach es X.env)).any (·.1) = false := by rfl) :
    PE X (.Call (.Attribute o name apos) (e :: es) [] cpos) (tBM X.K T r to t) := by
  intro pins s σ H Q I h
  refine wpAny_Call_method_late hbase hfew hline rfl (thn (ho pins s σ H _ I h) fun v s1 ⟨x, H1, I1, r1, ty, q1⟩ => ?_)
  obtain ⟨h1, h2⟩ := tyV_is I1 r1 ty
  refine ⟨T, id, pa, slot, hty, h1, h2, ?_⟩
  have hA := ha cpos pins s1 σ H1 _ I1 q1
  rw [hs] at hA ⊢
  refine Calls.callWith_builtin (by show (false || (backTo cpos (starEach es X.env)).any (·.1)) = false; rw [hplain] <;> rfl) (Calls.evalArgs_plain ?_)
  exact thn hA fun us s2 ⟨vs, H2, I2, r2, q2⟩ => hm pins s2 σ H2 x vs v us Q I2 r1 r2 q2
end
end L2
namespace L2
open PySem PySem.Spec PyProof.Rows
noncomputable def MtM (X : Cx) (id : String) (r : V → List V → Hp → VK → Prop) : Prop :=
  ∀ (pins : List (Addr × Obj)) (s : Shared) (σ : St) (H : Hp) (x : V) (xs : List V) (v : Value) (us : List Value) (Q : VK), Inv X pins σ H s → RelV x v → Vals xs us → r x xs H Q →
    wpAny (model X.prog X.w) X.A (call (.builtin id) (v :: us)) (EP X pins σ Q) X.xe s
theorem Vals.one : ∀ {x : V} {us : List Value}, Vals [x] us → ∃ u, us = [u] ∧ RelV x u
  | _, _, .cons r .nil => ⟨_, rfl, r⟩
theorem Vals.two : ∀ {x y : V} {us : List Value}, Vals [x, y] us → ∃ u v, us = [u, v] ∧ RelV x u ∧ RelV y v
  | _, _, _, .cons r (.cons q .nil) => ⟨_, _, rfl, r, q⟩
section
variable {X : Cx} {pins : List (Addr × Obj)} {σ : St} {H : Hp} {s : Shared} {l b : Addr} {xs ys zs : List V}
theorem Inv.lset {its its' : List Value} {n : Nat} {f : Array Value → Array Value} {t' : Nat} (I : Inv X pins σ H s) (hH : H l = some (.lst xs))
    (e : s.heap.get? l = some { cls := .type "list", data := .seq its.toArray n }) (hf : f its.toArray = its'.toArray) (hv : Vals ys its') (hz : ys.length ≤ sizeLine) :
    Inv X pins σ (upd H l (.lst ys)) { s with heap := s.heap.update l (Obj.mapSeq f), toks := t' } := by
  have q := PySem.IsL.update e f
  rw [hf] at q
  refine I.write (x := l) (e := l) (by rw [hH]; exact trivial) (.inl rfl) (fun b' u hb hu => (Heap.get?_update_other s.heap (Obj.mapSeq f) (Ne.symm hb)).trans hu) ⟨_, q⟩ ?_
  exact ⟨hz, its', _, hv, q⟩
theorem Inv.lnew {its : List Value} {t' : Nat} (I : Inv X pins σ H s) (hv : Vals ys its) (hz : ys.length ≤ sizeLine) :
    Inv X pins σ (upd H s.heap.objs.size (.lst ys)) { s with heap := s.heap.push { cls := .type "list", data := .seq its.toArray }, toks := t' } :=
  I.laid (fun _ _ q => Heap.get?_push_of_some _ q) (Nat.le_refl _) ⟨hz, its, 0, hv, Heap.get?_push_size _ rfl⟩
theorem Inv.fresh (I : Inv X pins σ H s) : H s.heap.objs.size = none := I.hok.fresh (Nat.le_refl _)
theorem Inv.lstM (I : Inv X pins σ H s) (hH : H l = some (.lst xs)) : xs.length ≤ sizeLine ∧ ∃ (its : List Value) (n : Nat), Vals xs its ∧ xs.length = its.length ∧ s.heap.get? l = some { cls := .type "list", data := .seq its.toArray n } := by
  obtain ⟨z, its, n, r, e⟩ := I.hok l _ hH
  exact ⟨z, its, n, r, r.length, e⟩
end
section
variable {X : Cx}
noncomputable def rAppend : V → List V → Hp → VK → Prop := fun x vs H Q => ∃ l xs y, x = .ref l ∧ vs = [y] ∧ H l = some (.lst xs) ∧ xs.length < sizeLine ∧ Q .non (upd H l (.lst (xs ++ [y])))
theorem mt_append : MtM X "list.append" rAppend := by
  intro pins s σ H x vs v us Q I rx rv h
  obtain ⟨l, xs, y, rfl, rfl, hH, hz, q⟩ := h
  cases rx
  obtain ⟨u, rfl, ru⟩ := rv.one
  obtain ⟨z, its, n, r, hl, e⟩ := I.lstM hH
  refine call_meets F.slot_list_append ⟨_, e, rfl⟩ F.entry_list_append (F.args_list_append_2 _ _) (PySem.list_append l its.toArray n u (by rw [List.size_toArray]; omega)) ⟨e, ?_⟩
  refine ⟨.non, _, I.lset (its' := its ++ [u]) hH e (by simp) (r.append (.cons ru .nil)) ?_, rfl, q⟩
  rw [List.length_append, List.length_singleton]
  omega
noncomputable def rCat : R2 := fun x y H Q => ∃ l b xs zs, x = .ref l ∧ y = .ref b ∧ H l = some (.lst xs) ∧ H b = some (.lst zs) ∧ xs.length + zs.length ≤ sizeLine ∧ ∀ p, H p = none → Q (.ref p) (upd H p (.lst (xs ++ zs)))
theorem op_cat : OpR X (binaryOp .Add) rCat := by
  intro pins s σ H x y v u Q I rx ry h
  obtain ⟨l, b, xs, zs, rfl, rfl, hH, hB, hz, q⟩ := h
  cases rx
  cases ry
  obtain ⟨z, its, n, r, hl, e⟩ := I.lstM hH
  obtain ⟨z2, its2, n2, r2, hl2, e2⟩ := I.lstM hB
  refine PySem.P.add_list e e2 ?_ (by rw [List.size_toArray, List.size_toArray]; omega)
  have ea : its.toArray ++ its2.toArray = (its ++ its2).toArray := by simp
  rw [ea]
  exact ⟨.ref _, _, I.lnew (t' := s.toks) (r.append r2) (by rw [List.length_append]; omega), rfl, q _ I.fresh⟩
end
section
variable {prog : Program} {w : World} {A : Around} {E : Value → Shared → Prop} {s : Shared}
set_option maxRecDepth 100000 in
end
section
variable {X : Cx}
end
end L2
namespace Att
open PySem PySem.W PySem.Calls PyProof.Rows
theorem ints_of_wellAll {P : Params} {h : Heap} : ∀ (ns : List Int) (vs : List Value), WellAll P h vs (ns.map WData.int) → IntsAre vs ns := by
  intro ns
  induction ns with
  | nil =>
    intro vs w
    rw [List.map_nil] at w
    cases w
    exact .nil
  | cons n ns ih =>
    intro vs w
    rw [List.map_cons] at w
    cases w with
    | cons a b =>
      cases a
      exact .cons _ _ (ih _ b)
theorem script_of {l : OpenLaw} {n : Nat} (hn : l.most = some n) {P : Params} {h : Heap} {args : List WData} {vals : List Value}
    (hpre : l.row.toRowW.claim.pre args = true) (hwl : WellAll P h vals args) :
    ∃ a vs ns, vals = [Value.ref a] ∧ args = [WData.list (ns.map WData.int)] ∧ h.get? a = some { cls := .type "list", data := .seq vs.toArray } ∧ IntsAre vs ns ∧ ns.length ≤ n := by
  have hsh : WShape.hasAll [] args [.list .int] = true := (pre_splitW hpre).1
  have hc : l.pre.holds [] { args := args } = true := (pre_splitW hpre).2
  obtain ⟨d, r, rfl, h1, h2⟩ := hasAllW_cons hsh
  obtain rfl := hasAllW_nil h2
  obtain ⟨xs, rfl, h3⟩ := hasW_list h1
  obtain ⟨ns, rfl⟩ := items_int h3
  have hlen : ns.length ≤ n := by
    unfold OpenLaw.pre at hc
    have h4 : (WTm.not (.lt (.lit (.int (n : Int))) (.len (.arg 0)))).holds [] { args := [.list (ns.map .int)] } = true := by
      have h4 := (holds_andW hc).1
      rw [hn] at h4
      exact h4
    have h5 := condW_of h4 (w_not (w_lt w_lit (w_len_list (w_arg rfl))))
    rw [List.length_map] at h5
    refine Nat.le_of_not_lt fun q => ?_
    have q' : (n : Int) < ((ns.length : Nat) : Int) := by omega
    first
      | (rw [decide_eq_true q'] at h5; exact absurd h5 (by decide))
      | (simp at h5; omega)
  cases hwl with
  | cons w1 w2 =>
    cases w2
    cases w1 with
    | list ho hall => exact ⟨_, _, ns, rfl, rfl, ho, ints_of_wellAll ns _ hall, hlen⟩
theorem post_true (l : OpenLaw) (args : List WData) : l.row.toRowW.claim.post args (.bool true) args = true :=
  postW_of (r := l.row.toRowW) (X := (true == true))
    (show WShape.has [] (.bool true) .bool = true by first | rfl | decide | simp [WShape.has, WShape.arms, WShape.armsAll])
    (show (WTm.eq .res (.lit (.bool true))).value [] { args := args, res := some (.bool true), after := args } = some (.bool (true == true)) from w_eq_bool (w_res rfl) w_lit) rfl
theorem attach_call {l : OpenLaw} {n : Nat} {q : Program} {loose : List Str} {XP : (Str → Option Value) → Heap → Prop} {YP : World → Heap → Prop} {d : DefRec}
    (hn : l.most = some n) (hdf : d.params.defaults = [])
    (call : ∀ (w : World) (s₀ s₁ : Shared) (mg mb : Str → Option Value) (fa : Addr) (o : Obj) (pm cd doc : Value) (a : Addr) (vs : List Value) (ns : List Int),
      Ground q loose [] XP w s₀ mg mb s₁.heap → YP w s₁.heap →
      s₁.heap.get? fa = some o → o.data = .func (docDef d.name d.params d.body d.scope pm cd doc) → s₁.heap.CodeRec cd d.name → mg d.name = some (.ref fa) →
      s₁.heap.get? a = some { cls := .type "list", data := .seq vs.toArray } → IntsAre vs ns → ns.length ≤ n → s₁.gens = #[] →
      codeAny (model l.prog w) callerA (.call (.ref fa) ⟨[.ref a], []⟩) (fun r s' => r = .ok (.ret (.bool true)) ∧ OldK s₁.heap s'.heap ∧ s'.os = s₁.os ∧ AllBare s'.gens) s₁) :
    WalkO q loose XP YP l.row.toRowW d [] (fun f vs => PySem.call f vs) := by
  intro w s₀ s₁ mg mb G Y fa o pm cd doc dV kV ho hd hcd hD hmg hg args vals as hpre hlay hrd hwl hlo
  obtain rfl : dV = .none := Dflts.none hD hdf
  obtain rfl : kV = .none := Dflts.noKw hD
  obtain ⟨a, vs, ns, rfl, rfl, hobj, hints, hlen⟩ := script_of hn hpre hwl
  refine enter_call (codeAny_mono (call w s₀ s₁ mg mb fa o pm cd doc a vs ns G Y ho (fd_plain hd) hcd hmg hobj hints hlen hg) fun r s' hq => ?_)
  obtain ⟨rfl, h2, h3, h4⟩ := hq
  exact ⟨.inl ⟨.bool true, .bool true, [], rfl, fun _ => rfl, .bool true, post_true l _, fun _ => ⟨List.Pairwise.nil, fun _ hm => (nomatch hm)⟩⟩, h2, h3, h4⟩
section
variable {prog : Program} {w : World} {A : Around} {E : Value → Shared → Prop} {s : Shared} {K : Frag}
noncomputable def ledger (h : Heap) (L d : Addr) : List (Addr × Obj) := (List.range h.objs.size).filterMap fun a => if a = L ∨ a = d then none else (h.get? a).map fun o => (a, o)
end
end Att
namespace L2
open PySem PySem.Spec PyProof.Rows
theorem vals_ints : ∀ {vs : List Value} {ns : List Int}, IntsAre vs ns → Vals (ns.map V.int) vs
  | _, _, .nil => .nil
  | _, _, .cons n t h => .cons ⟨t, rfl⟩ (vals_ints h)
noncomputable def Only (H : Hp) : Prop := ∀ b, H b = none ∨ ∃ o xs, H b = some (.frz o (.lst xs))
theorem law_call {P : Program} {w : World} {K : PySem.W.Frag} {mg mb : Str → Option Value} {CX : CXT} {k : Nat} {fa a : Addr} {fd : FuncData} {x : Str} {sp : Sp} {s₁ : Shared} {vs : List Value} {ns : List Int}
    (KX : K.In s₁.heap) (hns : s₁.heap.Ns mainGlobals mg) (hb : s₁.heap.Ns builtinsNs mb) (hbb : ∀ x : Str, x ≠ "__name__" → mb x = bootBuiltins x) (hlim : s₁.heap.NoLimit) (hg : s₁.gens = #[])
    (ha : s₁.heap.get? a = some { cls := .type "list", data := .seq vs.toArray }) (hi : IntsAre vs ns) (hl : ns.length ≤ sizeLine) (hr : Room k callerA)
    (F : ∀ base : Heap, K.In base → base.Ns mainGlobals mg → FnOk P w K mg base CX k fa fd [x] sp) (hbind : ∀ (s : Shared) (u : Value), BindsTo s fd ⟨[u], []⟩ [(x, u)])
    (hsp : ∀ H : Hp, Only H → SqL K H a (ns.map V.int) → sp [.ref a] H (fun v _ => v = .bl true) fun _ _ _ => False)
    (hCX : ∀ H e s', CX [] H s₁ (fun _ _ _ => False) e s' → False) :
    codeAny (model P w) callerA (.call (.ref fa) ⟨[.ref a], []⟩) (fun r s' => r = .ok (.ret (.bool true)) ∧ OldK s₁.heap s'.heap ∧ s'.os = s₁.os ∧ AllBare s'.gens) s₁ := by
  have rv := vals_ints hi
  have lenV := hi.length
  have core : ∀ H : Hp, Only H → SqL K H a (ns.map V.int) → HOk P w H s₁.heap → (∀ b, H b ≠ none → b = a) → (H a ≠ none → K.lookup a = none) →
      codeAny (model P w) callerA (.call (.ref fa) ⟨[.ref a], []⟩) (fun r s' => r = .ok (.ret (.bool true)) ∧ OldK s₁.heap s'.heap ∧ s'.os = s₁.os ∧ AllBare s'.gens) s₁ := by
    intro H hO hS hok hA hK
    have base_of : ∀ {b : Addr} {o : Obj}, s₁.heap.get? b = some o → H b = none → (hidT s₁.heap H).get? b = some o := fun e n => hidT_get e n
    have noA : ∀ {b : Addr} {o : Obj} {es : Array DictEntry} {ep : Nat}, s₁.heap.get? b = some o → o.data = .dict es ep → H b = none := fun {b o es ep} e d => by
      cases q : H b with
      | none => rfl
      | some u =>
        have e' : b = a := hA b (by rw [q]; simp)
        subst e'
        rw [ha] at e; cases e
        have d' : Data.seq vs.toArray _ = Data.dict es ep := d
        cases d'
    have nsK : ∀ {b : Addr} {m : Str → Option Value}, s₁.heap.Ns b m → (hidT s₁.heap H).Ns b m := fun {b m} ⟨o, es, ep, e, d, r⟩ => ⟨o, es, ep, base_of e (noA e d), d, r⟩
    have hKb : K.In (hidT s₁.heap H) := fun b o e => base_of (KX b o e) (by
      cases q : H b with
      | none => rfl
      | some u =>
        have e' : b = a := hA b (by rw [q]; simp)
        subst e'
        rw [hK (by rw [q]; simp)] at e; cases e)
    have hM : Mod K mg (hidT s₁.heap H) := ⟨hKb, nsK hns, ⟨mb, nsK hb, hbb⟩, let ⟨mc, h1, h2⟩ := hlim; ⟨mc, nsK h1, h2⟩⟩
    have e0 : Env0 P w K mg (hidT s₁.heap H) callerA [] s₁ H := ⟨rfl, hM, fun b o e => of_hidT e, Nat.le_of_eq (hidT_size _ _), trivial, fun b hb => absurd (show b ∈ ([] : List Addr) from hb) (by simp), hok, .of_eq hg⟩
    refine codeAny_mono ((F _ hKb (nsK hns)).run callerA [] s₁ H ⟨[.ref a], []⟩ [.ref a] [.ref a] _ _ hr e0 (hbind s₁ (.ref a)) (.cons rfl .nil) (hsp H hO hS)) fun r s' h => ?_
    cases r with
    | error e => exact (hCX H e s' h).elim
    | ok fl =>
      cases fl with
      | next => exact False.elim h
      | brk => exact False.elim h
      | cont => exact False.elim h
      | ret u =>
        obtain ⟨v, H', os, bare, un, hok', r', q⟩ := h
        have q' : v = .bl true := q
        subst q'
        obtain rfl : u = Value.bool true := r'
        refine ⟨rfl, OldK.of_keep fun b o e => ?_, os, bare⟩
        cases q : H b with
        | none => exact un.keep b o e q (by intro z; exact absurd (show b ∈ ([] : List Addr) from z) (by simp)) (by simp)
        | some u =>
          rcases hO b with z | ⟨ob, xs, z⟩
          · rw [q] at z; cases z
          · have z2 := un.frzs b ob _ z
            obtain ⟨e1, _⟩ := hok b _ z
            obtain ⟨e2, _⟩ := hok' b _ z2
            rw [e] at e1; cases e1
            exact e2
  cases hk : K.lookup a with
  | some o =>
    have e := KX a o hk
    rw [ha] at e
    cases e
    refine core (fun _ => none) (fun _ => .inl rfl) (.inr ⟨_, vs.toArray, _, hk, rfl, rfl, rfl, by rw [List.size_toArray, lenV]; exact hl, by simpa using rv⟩) (fun b u z => by have z' : (none : Option HO) = some u := z; cases z') (fun b z => absurd rfl z) fun z => absurd rfl z
  | none =>
    refine core (fun b => if b = a then some (.frz { cls := .type "list", data := .seq vs.toArray } (.lst (ns.map V.int))) else none) (fun b => ?_) (.inl (.inr ⟨{ cls := .type "list", data := .seq vs.toArray }, if_pos rfl⟩)) (fun b u z => ?_) (fun b z => ?_) fun _ => hk
    · by_cases hb : b = a
      · exact .inr ⟨_, _, if_pos hb⟩
      · exact .inl (if_neg hb)
    · by_cases hb : b = a
      · have z' := (if_pos hb).symm.trans z
        cases z'
        subst hb
        exact ⟨ha, by rw [List.length_map]; exact hl, vs, _, rv, ha⟩
      · have z' := (if_neg hb).symm.trans z
        cases z'
    · by_cases hb : b = a
      · exact hb
      · exact absurd (if_neg hb) z
end L2
namespace L2
open PySem PySem.Spec PyProof.Rows
noncomputable abbrev KOf {K : PySem.W.Frag} {h : Heap} (_ : K.In h) : PySem.W.Frag := K
theorem walk_of {l : PySem.W.OpenLaw} {n k : Nat} {q : Program} {loose : List Str} {XP : (Str → Option Value) → Heap → Prop} {YP : World → Heap → Prop} {d : DefRec} {K : Params → PySem.W.Frag} {CX : World → CXT} {sp : World → Sp} {x : Str}
    (hn : l.most = some n) (hn2 : n ≤ sizeLine) (hdf : d.params.defaults = []) (hr : Room k callerA)
    (hY : ∀ (w : World) (h : Heap), YP w h → (K w.params).In h)
    (F : ∀ (w : World) (mg : Str → Option Value) (fa : Addr) (h : Heap), (K w.params).In h → h.Ns mainGlobals mg → mg d.name = some (.ref fa) →
      ∃ fd : FuncData, (∀ (s : Shared) (u : Value), BindsTo s fd ⟨[u], []⟩ [(x, u)]) ∧
        ∀ base : Heap, (K w.params).In base → base.Ns mainGlobals mg → FnOk l.prog w (K w.params) mg base (CX w) k fa fd [x] (sp w))
    (hsp : ∀ (w : World) (H : Hp) (a : Addr) (ns : List Int), ns.length ≤ n → Only H → SqL (K w.params) H a (ns.map V.int) → sp w [.ref a] H (fun v _ => v = .bl true) fun _ _ _ => False)
    (hCX : ∀ (w : World) (H : Hp) (s : Shared) (e : Value) (s' : Shared), CX w [] H s (fun _ _ _ => False) e s' → False) :
    PySem.W.WalkO q loose XP YP l.row.toRowW d [] (fun f vs => PySem.call f vs) := by
  refine Att.attach_call hn hdf fun w s₀ s₁ mg mb fa o pm cd doc a vs ns G Y ho hd hcd hmg hobj hints hlen hg => ?_
  have KX := hY w _ Y
  obtain ⟨fd, hb, hF⟩ := F w mg fa _ KX G.T.g hmg
  exact law_call KX G.T.g G.T.b G.T.builtins G.T.nolimit hg hobj hints (Nat.le_trans hlen hn2) hr hF hb (fun H hO hS => hsp w H a ns hlen hO hS) fun H e s' => hCX w H s₁ e s'
end L2
namespace L2
open PySem PySem.Spec PyProof.Rows
noncomputable def defArgs (s : Stmt) : Arguments := match s with
  | .FunctionDef _ a _ _ _ _ _ _ _ _ => a
  | _ => { posonlyargs := [], args := [], vararg := none, kwonlyargs := [], kw_defaults := [], kwarg := none, defaults := [] }
noncomputable def defBody (s : Stmt) : List Stmt := match s with
  | .FunctionDef _ _ b _ _ _ _ _ _ _ => b
  | _ => []
noncomputable def defScope (s : Stmt) : Scope := match s with
  | .FunctionDef _ _ _ _ _ _ sc _ _ _ => sc
  | _ => { kind := .function, names := [], isGenerator := false, isCoroutine := false }
noncomputable abbrev CX0 : CXT := fun _ _ _ _ _ _ => False
noncomputable abbrev E0 : XK := fun _ _ _ => False
structure Fun (K : PySem.W.Frag) (x qual : Str) (st : Stmt) (f : Addr) (fd : FuncData) : Prop where
  ex : ∃ (oc : Value) (od : Option Addr) (kV doc pm : Value) (an : Option Addr) (cdv ct : Value) (osl : Array (Option Value)),
    fd = PySem.W.fnOf x qual (defArgs st) (defBody st) (defScope st) .none kV doc pm an cdv ct ∧ K.lookup f = some ⟨oc, od, .func fd, osl⟩ ∧ PySem.W.codeIn K cdv qual = true
  kp : PySem.W.keepIn K (.ref f) = true
section
variable {P : Program} {w : World} {K : PySem.W.Frag} {mg : Str → Option Value} {base : Heap}
theorem Fun.ok {x qual : Str} {st : Stmt} {f : Addr} {fd : FuncData} {N ps : List Str} {k : Nat} {sp : Sp} (F : Fun K x qual st f fd) (S : FnScope N ps (defScope st)) (len : ∀ vs H Q E, sp vs H Q E → vs.length = ps.length)
    (hbody : ∀ (cdv : Value) (A : Around) (outer : List Env) (s : Shared) (H : Hp) (vs : List V) (Q : VK) (E : XK), Room k (A.deeper (envOfC qual (defScope st) s.heap.objs.size f cdv)) → sp vs H Q E →
      ∃ t, PSs (cxOf CX0 P w K mg base N qual (defScope st) f cdv A outer s H E).nox (defBody st) t ∧ t { nx := fun _ H' => Q .non H', rt := Q } (start N vs) H) : FnOk P w K mg base CX0 (k + 1) f fd ps sp := by
  obtain ⟨oc, od, kV, doc, pm, an, cdv, ct, osl, rfl, lk, hcd⟩ := F.ex
  refine fn_of lk hcd S len fun A outer s H vs Q E hr hsp => ?_
  obtain ⟨t, h, q⟩ := hbody cdv A outer s H vs Q E hr hsp
  exact ⟨t, h.nox, q⟩
theorem Fun.binds {x qual : Str} {st : Stmt} {f : Addr} {fd : FuncData} {ps : List Str} (F : Fun K x qual st f fd)
    (h : ∀ (kV doc pm : Value) (an : Option Addr) (cdv ct : Value) (us : List Value), us.length = ps.length → bindArgs (PySem.W.fnOf x qual (defArgs st) (defBody st) (defScope st) .none kV doc pm an cdv ct) ⟨us, []⟩ = pure (ps.zip us)) : Binds K fd ps [] := by
  obtain ⟨oc, od, kV, doc, pm, an, cdv, ct, osl, rfl, lk, hcd⟩ := F.ex
  exact .all (h kV doc pm an cdv ct)
theorem fun_mk {x qual : Str} {st : Stmt} {f : Addr} {oc : Value} {od an : Option Addr} {osl : Array (Option Value)} {kV doc pm cdv ct : Value} (l : K.lookup f = some ⟨oc, od, .func (PySem.W.fnOf x qual (defArgs st) (defBody st) (defScope st) .none kV doc pm an cdv ct), osl⟩)
    (c : PySem.W.codeIn K cdv qual = true) (k : PySem.W.keepIn K (.ref f) = true) : Fun K x qual st f (PySem.W.fnOf x qual (defArgs st) (defBody st) (defScope st) .none kV doc pm an cdv ct) := ⟨⟨oc, od, kV, doc, pm, an, cdv, ct, osl, rfl, l, c⟩, k⟩
end
theorem small1000 {n : Nat} (h : n ≤ 1000) : n < sizeLine := Nat.lt_of_le_of_lt h (by decide)
section
variable {X : Cx}
theorem pv (i : Nat) {x : Str} {pos : Pos} (hN : X.N[i]? = some x := by rfl) (hv : Vis X.env.scope x := by first | exact Or.inl rfl | exact Or.inr (Or.inl rfl) | exact Or.inr (Or.inr rfl)) (hd : (x == ("__debug__" : Str)) = false := by decide)
    (hcd : (x == ("__classdict__" : Str)) = false := by decide) : PE X (.Name x pos) (tVar i) := pe_var hN hv hd hcd
end
theorem iteF {A B : Prop} (h : B) : if false = true then A else B := by
  rw [if_neg Bool.false_ne_true]
  exact h
theorem iteT {A B : Prop} (h : A) : if true = true then A else B := by
  rw [if_pos rfl]
  exact h
theorem ite2 {c A B : Prop} [Decidable c] (h1 : c → A) (h2 : ¬ c → B) : if c then A else B := by
  by_cases h : c
  · rw [if_pos h]
    exact h1 h
  · rw [if_neg h]
    exact h2 h
noncomputable def Same (H H' : Hp) : Prop := ∀ b o, H b = some o → H' b = some o
theorem Same.refl (H : Hp) : Same H H := fun _ _ h => h
theorem Same.trans {H H1 H2 : Hp} (a : Same H H1) (b : Same H1 H2) : Same H H2 := fun c o h => b c o (a c o h)
theorem Same.free {H H' : Hp} (e : Same H H') {l : Addr} (h : H' l = Option.none) : H l = Option.none := by
  cases q : H l with
  | none => rfl
  | some o =>
    rw [e l o q] at h
    cases h
theorem Same.seq {K : PySem.W.Frag} {H H' : Hp} {a : Addr} {xs : List V} (e : Same H H') (h : SqL K H a xs) : SqL K H' a xs := by
  rcases h with (h | ⟨o, h⟩) | h
  · exact .inl (.inl (e _ _ h))
  · exact .inl (.inr ⟨o, e _ _ h⟩)
  · exact .inr h
end L2
set_option maxHeartbeats 4000000
namespace Lx
open PySem PySem.Spec PyProof.Rows L2
noncomputable def ExcAt (h₀ h : Heap) (H : Hp) (x : Addr) (C : Value) : Prop :=
  ∃ oe vs, h.get? x = some oe ∧ oe.cls = C ∧ oe.data = .fields vs ∧ H x = none ∧ h₀.get? x = none ∧
    (vs[1]? = some Value.none ∨ ∃ T oT ts, vs[1]? = some (Value.ref T) ∧ T ≠ x ∧ h.get? T = some oT ∧ oT.data = .fields ts ∧ ts[3]? = some Value.none ∧ H T = none ∧ h₀.get? T = none)
theorem ExcAt.older {h₀ h₁ h : Heap} {H : Hp} {x : Addr} {C : Value} (e : ExcAt h₁ h H x C) (k : ∀ b, h₁.get? b = none → h₀.get? b = none) : ExcAt h₀ h H x C := by
  obtain ⟨oe, vs, h1, h2, h3, h4, h5, h6⟩ := e
  refine ⟨oe, vs, h1, h2, h3, h4, k _ h5, ?_⟩
  rcases h6 with h6 | ⟨T, oT, ts, g1, g2, g3, g4, g5, g6, g7⟩
  · exact .inl h6
  · exact .inr ⟨T, oT, ts, g1, g2, g3, g4, g5, g6, k _ g7⟩
theorem obj_get {P : Program} {w : World} {H : Hp} {h : Heap} {a : Addr} {o : HO} (x : ObjOk P w H h a o) : ∃ u, h.get? a = some u := by
  cases o with
  | lst xs => obtain ⟨_, _, _, _, e⟩ := x; exact ⟨_, e⟩
  | tup xs => obtain ⟨_, _, _, p⟩ := x; obtain ⟨o, h1, _⟩ := p; exact ⟨o, h1⟩
  | dK kvs => obtain ⟨_, _, _, _, o, _, _, e, _⟩ := x; exact ⟨_, e⟩
  | dT kvs => obtain ⟨_, _, _, _, o, _, _, e, _⟩ := x; exact ⟨_, e⟩
  | set S n => obtain ⟨o, _, _, _, e, _⟩ := x; exact ⟨_, e⟩
  | ins C dx fs => obtain ⟨_, _, _, e, _⟩ := x; exact ⟨_, e⟩
  | own y => exact x
  | xd fs => obtain ⟨_, ⟨_, _, _, e, _⟩, _⟩ := x; exact ⟨_, e⟩
  | rng lo hi => obtain ⟨_, _, _, e⟩ := x; exact ⟨_, e⟩
  | frz ob u => obtain ⟨e, _⟩ := x; exact ⟨_, e⟩
  | tbl ps => exact ⟨_, (show h.get? a = some _ from x)⟩
  | met f y => exact ⟨_, (show h.get? a = some _ from x)⟩
  | ext φ => obtain ⟨_, e, _⟩ := x; exact e
theorem mem_frs {env : Env} {l : List Env} {a : Addr} (h : env ∈ l) (hf : env.frame = some a) : a ∈ frs l := List.mem_filterMap.mpr ⟨env, h, hf⟩
theorem noted_any {M : Model} {A : Around} {E : Value → Shared → Prop} {s : Shared} {base h₀ : Heap} {env : Env} {outer : List Env} {L x : Addr} {C : Value} {H : Hp} {Q : Unit → Shared → Prop}
    (hfr : A.frames = some (env :: outer)) (hl : s.heap.FunFrames base (env :: outer)) (hf : env.frame = some L) (hx : ExcAt h₀ s.heap H x C)
    (h0 : ∀ b o, h₀.get? b = some o → ∃ u, s.heap.get? b = some u) (hH : ∀ b o, H b = some o → ∃ u, s.heap.get? b = some u)
    (h : ∀ h', (∀ b o, s.heap.get? b = some o → (h₀.get? b ≠ none ∨ H b ≠ none) → b ∉ frs (env :: outer) → h'.get? b = some o) →
      (∀ b o, s.heap.get? b = some o → b ∈ frs (env :: outer) → ∃ sl, h'.get? b = some { o with slots := sl }) →
      ExcAt h₀ h' H x C → Q () { s with heap := h' }) :
    wpAny M A (noteFrame (.ref x) env) (fun _ s2 => wpAny M A (setFlight (.ref x) none) Q E s2) E s := by
  obtain ⟨oe, vs, he, hc, hd, hHx, h0x, htr⟩ := hx
  have go : ∀ (tr : List Addr) (hxt : x ∈ tr) (htr : ∀ b ∈ tr, H b = none ∧ h₀.get? b = none) (h' : Heap), Heap.Left (PySem.W.hideAll s.heap (tr ++ frs (env :: outer))) (env :: outer) x C s.heap h' → Q () { s with heap := h' } := by
    intro tr hxt htr h' hL
    obtain ⟨k1, k2, k3, k4⟩ := hL
    have kept : ∀ b o, s.heap.get? b = some o → (h₀.get? b ≠ none ∨ H b ≠ none) → b ∉ frs (env :: outer) → h'.get? b = some o := fun b o e hb hn => by
      refine k1 b o (PySem.W.hideAll_get _ e fun hm => ?_)
      rcases List.mem_append.mp hm with z | z
      · obtain ⟨z1, z2⟩ := htr b z
        rcases hb with q | q
        · exact q z2
        · exact q z1
      · exact hn z
    refine h h' kept (fun b o e hb => ?_) ?_
    · obtain ⟨_, o', e', nf⟩ := hl.mem hb
      rw [e] at e'; cases e'
      exact k4 b o e nf
    · obtain ⟨oe', vs', T, oT, ts, he', hc', hd', h1', hnT, hTe, hT, hdT, h3⟩ := k3
      have hTn : H T = none ∧ h₀.get? T = none := by
        by_cases hm : T ∈ tr ++ frs (env :: outer)
        · rcases List.mem_append.mp hm with z | z
          · exact htr T z
          · obtain ⟨_, o', e', nf⟩ := k2.mem z
            rw [hT] at e'; cases e'
            exact absurd hdT (nf ts)
        · have no : s.heap.get? T = none := by
            cases q : s.heap.get? T with
            | none => rfl
            | some o =>
              rw [PySem.W.hideAll_get _ q hm] at hnT; cases hnT
          refine ⟨?_, ?_⟩
          · cases q : H T with
            | none => rfl
            | some o =>
              obtain ⟨u, hu⟩ := hH T o q
              rw [no] at hu; cases hu
          · cases q : h₀.get? T with
            | none => rfl
            | some o =>
              obtain ⟨u, hu⟩ := h0 T o q
              rw [no] at hu; cases hu
      exact ⟨oe', vs', he', hc', hd', hHx, h0x, .inr ⟨T, oT, ts, h1', hTe, hT, hdT, h3, hTn.1, hTn.2⟩⟩
  have ff : ∀ tr : List Addr, s.heap.FunFrames (PySem.W.hideAll s.heap (tr ++ frs (env :: outer))) (env :: outer) := fun tr => PySem.W.funFrames_hide hl fun env' h1 a h2 => List.mem_append_right _ (mem_frs h1 h2)
  have stays : ∀ tr : List Addr, (PySem.W.hideAll s.heap (tr ++ frs (env :: outer))).StaysIn s.heap := fun tr b o q => PySem.W.of_hideAll _ q
  have hid : ∀ (tr : List Addr) (b : Addr), b ∈ tr → (PySem.W.hideAll s.heap (tr ++ frs (env :: outer))).get? b = none := fun tr b hb => PySem.W.hideAll_none _ (List.mem_append_left _ hb)
  rcases htr with h1 | ⟨Tr, oTr, tv, h1, hTx, hTr, hdTr, h3, hHT, h0T⟩
  · unfold noteFrame
    simp only [hf]
    refine wpAny_bind (wpAny_field (s := s) he hd h1 ?_)
    rw [if_neg (by decide : ¬ ((Value.none != Value.none) = true))]
    refine wpAny_newEntry hfr (ff [x]) hf he (stays [x]) (hid [x] x (by simp)) hd (Array.getElem?_eq_some_iff.mp h1).1 fun h' hL => go [x] (by simp) (fun b hb => ?_) h' (by rw [← hc]; exact hL)
    have e : b = x := by simpa using hb
    subst e
    exact ⟨hHx, h0x⟩
  · unfold noteFrame
    simp only [hf]
    refine wpAny_bind (wpAny_field (s := s) he hd h1 ?_)
    rw [if_pos (by simp : (Value.ref Tr != Value.none) = true)]
    refine wpAny_bind (wpAny_field (s := s) hTr hdTr h3 ?_)
    rw [if_neg (by simp [rawInt] : ¬ ((Value.none == rawInt L) = true))]
    refine wpAny_bind (wpAny_setField (s := s) hTr hdTr (Array.getElem?_eq_some_iff.mp h3).1 ?_)
    have oth : ∀ b, b ≠ Tr → (s.heap.update Tr (Obj.mapFields (·.setIfInBounds 3 Value.none))).get? b = s.heap.get? b := fun b nb => Heap.get?_update_other _ _ (Ne.symm nb)
    have nT : ∀ b u, s.heap.get? b = some u → (∀ vs, u.data ≠ .fields vs) → b ≠ Tr := fun b u q nf z => by
      rw [z, hTr] at q
      cases q
      exact nf tv hdTr
    refine wpAny_newEntry hfr ((ff [x, Tr]).of_keeps fun b u q nf => ⟨u, (oth b (nT b u q nf)).trans q, rfl⟩) hf ((oth x (Ne.symm hTx)).trans he) (fun b u q => (oth b fun z => ?_).trans (stays [x, Tr] b u q)) (hid [x, Tr] x (by simp)) hd (Array.getElem?_eq_some_iff.mp h1).1
      fun h' hL => go [x, Tr] (by simp) (fun b hb => ?_) h' ⟨hL.1, hL.2.1, by rw [← hc]; exact hL.2.2.1, fun b u q nf => hL.2.2.2 b u ((oth b (nT b u q nf)).trans q) nf⟩
    · rw [z, hid [x, Tr] Tr (by simp)] at q
      cases q
    · have e : b = x ∨ b = Tr := by simpa using hb
      rcases e with e | e
      · subst e; exact ⟨hHx, h0x⟩
      · subst e; exact ⟨hHT, h0T⟩
theorem leaving_any {M : Model} {A : Around} {E : Value → Shared → Prop} {s : Shared} {base h₀ : Heap} {env : Env} {outer : List Env} {L x : Addr} {C : Value} {H : Hp} {Q : Unit → Shared → Prop}
    (hfr : A.frames = some (env :: outer)) (hl : s.heap.FunFrames base (env :: outer)) (hf : env.frame = some L) (hx : ExcAt h₀ s.heap H x C)
    (h0 : ∀ b o, h₀.get? b = some o → ∃ u, s.heap.get? b = some u) (hH : ∀ b o, H b = some o → ∃ u, s.heap.get? b = some u)
    (h : ∀ h', (∀ b o, s.heap.get? b = some o → (h₀.get? b ≠ none ∨ H b ≠ none) → b ∉ frs (env :: outer) → h'.get? b = some o) →
      (∀ b o, s.heap.get? b = some o → b ∈ frs (env :: outer) → ∃ sl, h'.get? b = some { o with slots := sl }) →
      ExcAt h₀ h' H x C → Q () { s with heap := h' }) :
    wpAny M A (leaving env (.ref x)) Q E s := wpAny_bind (noted_any hfr hl hf hx h0 hH h)
noncomputable def CXE (P : Program) (w : World) : CXT := fun outer H s E e s' =>
  ∃ (x : Addr) (C : Value) (H' : Hp), e = .ref x ∧ s'.os = s.os ∧ AllBare s'.gens ∧ Un (frs outer) [] H H' s.heap s'.heap ∧ HOk P w H' s'.heap ∧ ExcAt s.heap s'.heap H' x C ∧ E C none H'
theorem passE0 {P : Program} {w : World} {X : Cx} : Passes (CXE P w) X E0 := fun _ _ _ _ _ _ _ ⟨_, _, _, _, _, _, _, _, _, h⟩ => h.elim
section
variable {P : Program} {w : World} {K : PySem.W.Frag} {mg : Str → Option Value} {base : Heap}
theorem left_ok {X : Cx} {pins : List (Addr × Obj)} {σ : L2.St} {H' : Hp} {s' : Shared} {h' h₁ : Heap} (I' : Inv X pins σ H' s')
    (k : ∀ b o, s'.heap.get? b = some o → (h₁.get? b ≠ none ∨ H' b ≠ none) → b ∉ frs X.stack → h'.get? b = some o) : HOk X.prog X.w H' h' := fun a o e =>
  (I'.hok a o e).stay (fun b u hb q => by
    have t : H' b ≠ none := by
      rcases hb with z | z
      · rw [z, e]; simp
      · rw [z]; simp
    exact k b u q (.inr t) fun hm => t (I'.stkFree b hm)) (fun _ q => q) fun _ _ q => q
theorem pass_own {N : List Str} {qual : Str} {scope : Scope} {f : Addr} {cdv : Value} {A : Around} {outer : List Env} {s₀ : Shared} {H₀ : Hp} {E : XK} :
    Passes (CXE P w) (cxOf (CXE P w) P w K mg base N qual scope f cdv A outer s₀ H₀ E) E := by
  intro pins σ H s e s' I hc
  obtain ⟨x, C, H', rfl, ho, hg, u, hok, hx, hE⟩ := hc
  have I' : Inv (cxOf (CXE P w) P w K mg base N qual scope f cdv A outer s₀ H₀ E) pins σ H' s' := I.call' ho u hok hg (fun b z => absurd z (by simp))
  have there : ∀ b o, s₀.heap.get? b = some o → ∃ o', s.heap.get? b = some o' := fun b o e => I.base.there b o e (by intro z; exact absurd (show b ∈ ([] : List Addr) from z) (by simp))
  show wpAny (model P w) _ (leaving _ (.ref x)) _ _ s'
  refine leaving_any (h₀ := s.heap) (H := H') (C := C) (base := base) I'.ok.frames I'.stack rfl hx (fun b o e => u.there b o e (by simp)) (fun b o e => obj_get (hok b o e)) fun h' kp sl hx' => ?_
  have noex : ∀ b : Addr, b ∉ (cxOf (CXE P w) P w K mg base N qual scope f cdv A outer s₀ H₀ E).ex := fun b z => absurd (show b ∈ ([] : List Addr) from z) (by simp)
  have neL : ∀ b o, s₀.heap.get? b = some o → b ∉ frs outer → b ∉ frs (envOfC qual scope s₀.heap.objs.size f cdv :: outer) := fun b o e hb hm => by
    rcases List.mem_cons.mp (I'.stkSub b hm) with z | z
    · exact absurd (z ▸ Heap.lt_size e) (Nat.not_lt.mpr I'.ok.above)
    · exact hb z
  refine ⟨x, C, H', rfl, I'.os, I'.bare, ⟨fun b o e n hb _ => ?_, fun b o e n hb _ => ?_, fun b o e n _ => I'.base.free b o e n (noex b), fun b o e _ => ?_, I'.base.tups, I'.base.frzs, I'.base.tbls⟩, left_ok I' kp, hx'.older (fun b q => ?_), hE⟩
  · obtain ⟨o', e'⟩ := there b o e
    exact kp b o (I'.base.keep b o e n hb (noex b)) (.inl (by rw [e']; simp)) (neL b o e hb)
  · obtain ⟨sl1, e1⟩ := I'.base.slot b o e n hb (noex b)
    obtain ⟨sl2, e2⟩ := sl b _ e1 (by
      obtain ⟨env, h1, h2⟩ := List.mem_filterMap.mp hb
      exact mem_frs (List.mem_cons_of_mem _ h1) h2)
    exact ⟨sl2, e2⟩
  · obtain ⟨o1, e1⟩ := I'.base.there b o e (noex b)
    by_cases hm : b ∈ frs (envOfC qual scope s₀.heap.objs.size f cdv :: outer)
    · obtain ⟨sl2, e2⟩ := sl b _ e1 hm
      exact ⟨_, e2⟩
    · obtain ⟨o', e'⟩ := there b o e
      exact ⟨_, kp b o1 e1 (.inl (by rw [e']; simp)) hm⟩
  · cases q2 : s₀.heap.get? b with
    | none => rfl
    | some o =>
      obtain ⟨o', e'⟩ := there b o q2
      rw [q] at e'; cases e'
theorem okE {x qual : Str} {st : Stmt} {f : Addr} {fd : FuncData} {N ps : List Str} {k : Nat} {sp : Sp} (F : Fun K x qual st f fd) (S : FnScope N ps (defScope st)) (len : ∀ vs H Q E, sp vs H Q E → vs.length = ps.length)
    (hbody : ∀ (cdv : Value) (A : Around) (outer : List Env) (s : Shared) (H : Hp) (vs : List V) (Q : VK) (E : XK), Room k (A.deeper (envOfC qual (defScope st) s.heap.objs.size f cdv)) → sp vs H Q E →
      ∃ t, PSs (cxOf (CXE P w) P w K mg base N qual (defScope st) f cdv A outer s H E) (defBody st) t ∧ t { nx := fun _ H' => Q .non H', rt := Q } (start N vs) H) : FnOk P w K mg base (CXE P w) (k + 1) f fd ps sp := by
  obtain ⟨oc, od, kV, doc, pm, an, cdv, ct, osl, rfl, lk, hcd⟩ := F.ex
  exact fn_of lk hcd S len fun A outer s H vs Q E hr hsp => hbody cdv A outer s H vs Q E hr hsp
end
end Lx
namespace Lx
open PySem PySem.Spec PyProof.Rows L2
noncomputable abbrev vMro : List Value := [.type "ValueError", .type "Exception", .type "BaseException", .type "object"]
theorem own_obj {K : PySem.W.Frag} {h : Heap} {C : Addr} {bmB : List Value} {newId : String} (KI : K.In h) (q : PySem.W.excIn K C bmB newId = true) :
    ∃ bm N nm qn bs hdct sn sub ab col dd k0 k1 k2 k3 k5 mN, h.get? C = some (excClassObj nm qn C N bs bm hdct sn sub ab col dd k0 k1 k2 k3 k5 newId) ∧ h.Ns N mN ∧ mN "__init__" = none ∧ OwnTail h bmB bm := by
  unfold PySem.W.excIn at q
  split at q
  · rename_i dct cdat slts hlook
    split at q
    · rename_i Cx bmx s0 s1 s2 s3 nw s5 hmr hsl
      simp only [Bool.and_eq_true, beq_iff_eq, Bool.not_eq_true'] at q
      obtain ⟨⟨⟨⟨⟨q1, q2⟩, q3⟩, q4⟩, q5⟩, q6⟩ := q
      subst q1; subst q2
      obtain ⟨f1, f2, f3, f4, f5, f6, f7, f8, f9, f10, f11⟩ := cdat
      dsimp only at hmr q3 q5 q6
      subst hmr; subst q3
      obtain ⟨sl⟩ := slts
      dsimp only at hsl
      subst hsl
      exact ⟨bmx, f4, f1, f5, f2, f6, f7, f8, f9, f10, dct, s0, s1, s2, s3, s5, _, KI _ _ hlook, .of_isNs (PySem.W.isNs_of_in KI q5), PySem.W.nsMap_none_of_in KI q5 q6, PySem.W.tail_of_in KI q4⟩
    · cases q
  · cases q
structure ExcCl (K : PySem.W.Frag) (mg : Str → Option Value) (x : Str) (C : Addr) : Prop where
  ex : PySem.W.excIn K C vMro "ValueError.__new__" = true
  mgx : mg x = some (.ref C)
noncomputable def tRaise (E : XK) (C : Addr) (t : TA) : TS := fun _ σ H => t σ H fun vs H1 => vs.length ≤ sizeLine ∧ E (.ref C) none H1
section
variable {X : Cx} {P : Program} {w : World} {E : XK} {x : Str} {C : Addr} {np cpos pos : Pos} {e : Expr} {es : List Expr} {t : TA}
theorem ps_raise (O : ExcCl X.K X.mg x C) (hh : X.A.handled = none) (hx : Passes (CXE X.prog X.w) X E) (hg : Gl X x) (ha : PA X (e :: es) t) (hd : (x == ("__debug__" : Str)) = false := by decide)
    (he : starEach (e :: es) X.env = (false, eval e X.env) :: starEach es X.env := by rfl) (hpl : (backTo cpos (starEach es X.env)).any (·.1) = false := by rfl) :
    PS X (.Raise (some (.Call (.Name x np) (e :: es) [] cpos)) none pos) (tRaise E C t) := by
  intro pins s σ H D I h
  obtain ⟨bm, N, nm, qn, bs, hdct, sn, sub, ab, col, dd, k0, k1, k2, k3, k5, mN, hC, hN, hni, T⟩ := own_obj I.ok.mod.kin O.ex
  refine wpAny_Raise_call_subU (C := C) (nm := nm) (q := qn) (N := N) (bs := bs) (bm := bm) (hdct := hdct) (sn := sn) (sub := sub) (ab := ab) (col := col) (dd := dd) (k0 := k0) (k1 := k1) (k2 := k2) (k3 := k3) (k5 := k5)
    PySem.F.excBase_ValueError (by decide +kernel) PySem.F.excBase_ValueError (mN := mN) (T.hasType PySem.F.excBase_ValueError.hasBase) hh (by rw [he]; show (false || (backTo cpos (starEach es X.env)).any (·.1)) = false; rw [hpl]; rfl) hni (ld_glob I hg O.mgx ⟨rfl, ?_⟩ hd)
  have ha1 := thn (ha cpos pins s σ H _ I h) (Q' := fun vs s₂ => vs.length ≤ sizeLine ∧ (∀ b o, X.base.get? b = some o → s₂.heap.get? b = some o) ∧ ∀ h' e, Heap.MadeExcOf s₂.heap h' e (.ref C) vs → X.xe (.ref e) { s₂ with heap := h' }) (fun us s2 ⟨vs, H1, I1, r, z, q⟩ => ⟨by rw [← r.length]; exact z, I1.bk, fun h' e M => ?_⟩)
  · rw [he] at ha1 ⊢
    exact Calls.evalArgs_plain (wpAny_mono ha1 (fun vs s₂ h₂ => ⟨rfl, h₂.1, h₂.2.1 _ _ hC, hN.keeps h₂.2.1, T.keeps h₂.2.1, h₂.2.2⟩) fun _ _ y => y)
  · refine hx pins σ H1 s2 (.ref e) _ I1 ⟨e, .ref C, H1, rfl, rfl, I1.bare, Un.kept M.keeps, I1.hok.kept M.keeps, ?_, q⟩
    obtain ⟨tt, t1, t2, t3⟩ := M.there
    refine ⟨_, _, t1, rfl, rfl, ?_, M.new, .inl rfl⟩
    cases z : H1 e with
    | none => rfl
    | some o =>
      obtain ⟨u, hu⟩ := obj_get (I1.hok e o z)
      rw [M.new] at hu; cases hu
end
noncomputable abbrev XS := L2.St → XK
noncomputable abbrev TSX := Ends → XS → L2.St → Hp → Prop
noncomputable def Up (X : Cx) (pins : List (Addr × Obj)) (E : XS) (e : Value) (s' : Shared) : Prop :=
  ∃ (x : Addr) (C : Value) (σ' : L2.St) (H' : Hp) (h₁ : Heap), e = .ref x ∧ Inv X pins σ' H' s' ∧ ExcAt h₁ s'.heap H' x C ∧ (∀ b o, h₁.get? b = some o → ∃ u, s'.heap.get? b = some u) ∧
    (∀ b o, X.s₀.heap.get? b = some o → b ∉ X.ex → ∃ u, h₁.get? b = some u) ∧ (∃ u, h₁.get? X.env.locals = some u) ∧ (∀ p ∈ X.pn ++ pins, ∃ u, h₁.get? p.1 = some u) ∧ (∀ x c, X.env.cells.lookup x = some c → ∃ u, h₁.get? c = some u) ∧ E σ' C none H'
noncomputable def PSX (X : Cx) (st : Stmt) (t : TSX) : Prop :=
  ∀ (pins : List (Addr × Obj)) (s : Shared) (σ : L2.St) (H : Hp) (D : Ends) (E : XS), Inv X pins σ H s → t D E σ H → wpAny (model X.prog X.w) X.A (exec st X.env) (SP X pins D) (Up X pins E) s
noncomputable def PSsX (X : Cx) (st : List Stmt) (t : TSX) : Prop :=
  ∀ (pins : List (Addr × Obj)) (s : Shared) (σ : L2.St) (H : Hp) (D : Ends) (E : XS), Inv X pins σ H s → t D E σ H → wpAny (model X.prog X.w) X.A (execs st X.env) (SP X pins D) (Up X pins E) s
section
variable {X : Cx} {st : Stmt} {rest : List Stmt} {t u : TSX} {pos : Pos}
theorem pssx_one (h1 : PSX X st t) : PSsX X [st] t := by
  intro pins s σ H D E I h
  refine wpAny_execs_cons (thn (h1 pins s σ H D E I h) fun f s1 q => ?_)
  cases f with
  | next => exact wpAny_execs_nil q
  | ret v => exact q
  | brk => exact q
  | cont => exact q
theorem psx_if {c : Expr} {a b : List Stmt} {tc : TT} (hc : PT X.nox c tc) (ha : PSsX X a t) (hb : PSsX X b u) : PSX X (.If c a b pos) (fun D E σ H => tc σ H fun d H1 => if d = true then t D E σ H1 else u D E σ H1) := by
  intro pins s σ H D E I h
  have hc' := wpAny_mono (hc pins s σ H _ (I.wish _) h) (Q' := TP X pins σ fun d H1 => if d = true then t D E σ H1 else u D E σ H1) (E' := Up X pins E) (fun _ _ ⟨H', I', q⟩ => ⟨H', I'.unwish, q⟩) fun _ _ z => False.elim z
  refine wpAny_If (thn hc' fun d s1 ⟨H1, I1, q1⟩ => ?_)
  cases d with
  | true => exact ha pins s1 σ H1 D E I1 q1
  | false => exact hb pins s1 σ H1 D E I1 q1
theorem up_of {pins : List (Addr × Obj)} {σ : L2.St} {H : Hp} {s s' : Shared} {e : Value} {E : XS} (I : Inv X pins σ H s) (h : CXE X.prog X.w X.stack H s (E σ) e s') : Up X pins E e s' := by
  obtain ⟨x, C, H', rfl, ho, hg, un, hok, hx, hE⟩ := h
  refine ⟨x, C, σ, H', s.heap, rfl, I.call' ho un hok hg (fun b z => absurd z (by simp)), hx, fun b o e => un.there b o e (by simp), fun b o e hb => I.base.there b o e hb, ?_, fun p hp => ⟨_, (I.pin p hp).1⟩, fun x c hc => ?_, hE⟩
  · obtain ⟨m, ⟨o, _, _, ho, _⟩, _⟩ := I.loc
    exact ⟨o, ho⟩
  · obtain ⟨v, o, ho, _⟩ := I.cell x c hc
    exact ⟨o, ho⟩
variable {k : Nat} {f : Addr} {fd : FuncData} {ps : List Str} {sp : Sp} {x : Str} {p : Pos} {e : Expr} {es : List Expr} {ta : TA}
theorem callX {pins : List (Addr × Obj)} {s : Shared} {σ : L2.St} {H : Hp} {Q : VK} {E : XS} (F : FnOk X.prog X.w X.K X.mg X.base (CXE X.prog X.w) k f fd ps sp) (hr : Room k X.A) (hg : Gl X x) (hm : X.mg x = some (.ref f)) (hk : PySem.W.keepIn X.K (.ref f) = true) (hb : Binds X.K fd ps [])
    (ha : PA X.nox (e :: es) ta) (I : Inv X pins σ H s) (h : ta σ H fun vs H1 => sp vs H1 Q (E σ)) (hdb : (x == ("__debug__" : Str)) = false := by decide) (he : starEach (e :: es) X.env = (false, eval e X.env) :: starEach es X.env := by rfl) (hpl : (backTo pos (starEach es X.env)).any (·.1) = false := by rfl) :
    wpAny (model X.prog X.w) X.A (eval (.Call (.Name x p) (e :: es) [] pos) X.env) (EP X pins σ Q) (Up X pins E) s := by
  refine wpAny_Call_Name_kw (ld_glob I hg hm ?_ hdb)
  have ha' := wpAny_mono (ha pos pins s σ H _ (I.wish _) h) (Q' := AP X pins σ fun vs H1 => sp vs H1 Q (E σ)) (E' := Up X pins E) (fun _ _ ⟨vs, H', I', r, q⟩ => ⟨vs, H', I'.unwish, r, q⟩) fun _ _ z => False.elim z
  refine PySem.W.callWith_K (h₀ := X.base) I.ok.mod.kin hk (thn ha' fun us s1 ⟨vs, H1, I1, r, q⟩ => ⟨I1.kIn, ?_⟩) he hpl
  have hl : (us ++ []).length = ps.length := by rw [List.append_nil, ← r.length]; exact F.len _ _ _ _ q
  have hb1 := hb s1 us I1.kIn hl
  rw [List.append_nil] at hb1
  refine wpAny_call (codeAny_mono (F.run X.A X.stack s1 H1 ⟨us, []⟩ us vs Q (E σ) hr I1.env0 hb1 r q) fun r s' hq => ?_)
  cases r with
  | error e => exact up_of I1 hq
  | ok fl =>
    cases fl with
    | ret u => exact I1.after hq
    | next => exact False.elim hq
    | brk => exact False.elim hq
    | cont => exact False.elim hq
noncomputable def xCall (sp : Sp) (ta : TA) : TSX := fun D E σ H => ta σ H fun vs H1 => sp vs H1 (fun _ H2 => D.nx σ H2) (E σ)
theorem psx_call {epos : Pos} (F : FnOk X.prog X.w X.K X.mg X.base (CXE X.prog X.w) k f fd ps sp) (hr : Room k X.A) (hg : Gl X x) (hm : X.mg x = some (.ref f)) (hk : PySem.W.keepIn X.K (.ref f) = true) (hb : Binds X.K fd ps [])
    (ha : PA X.nox (e :: es) ta) (hs : swapsWith (.Call (.Name x p) (e :: es) [] pos) none epos.line X.env = pure false := by rfl) (hdb : (x == ("__debug__" : Str)) = false := by decide) (he : starEach (e :: es) X.env = (false, eval e X.env) :: starEach es X.env := by rfl) (hpl : (backTo pos (starEach es X.env)).any (·.1) = false := by rfl) :
    PSX X (.Expr (.Call (.Name x p) (e :: es) [] pos) epos) (xCall sp ta) := by
  intro pins s σ H D E I h
  exact wpAny_Expr_any (thn (callX F hr hg hm hk hb ha I h hdb he hpl) fun v s1 ⟨x, H1, I1, r1, q1⟩ => ⟨σ, H1, I1, q1⟩) I.quiet hs
end
end Lx
namespace Lx
open PySem PySem.Spec PyProof.Rows L2
noncomputable abbrev caught (X : Cx) (x : Addr) : Cx := { X with A := X.A.mark (some (.ref x)), calm := false, xe := fun _ _ => False }
section
variable {X : Cx} {pins : List (Addr × Obj)} {σ : L2.St} {H : Hp} {s : Shared} {x : Addr}
theorem ok_caught (ok : X.Ok) : (caught X x).Ok :=
  ⟨ok.mod, ok.kind, ok.glob, ok.blt, ok.above, ok.inj, ok.has, ok.cab, fun z => absurd z (by simp), ok.frames, ok.stk, ok.exf, ok.bs, ok.bsz, ok.noex, ok.exfs, ok.funs, ok.frf⟩
theorem inv_caught (I : Inv X pins σ H s) : Inv (caught X x) pins σ H s := ⟨ok_caught I.ok, I.os, I.bare, I.base, I.loc, I.cell, I.free, I.freeC, I.pin, I.hok, I.len⟩
theorem inv_uncaught (hX : X.Ok) (I : Inv (caught X x) pins σ H s) : Inv X pins σ H s := ⟨hX, I.os, I.bare, I.base, I.loc, I.cell, I.free, I.freeC, I.pin, I.hok, I.len⟩
theorem sp_uncaught {D : Ends} {f : Flow} {s' : Shared} (hX : X.Ok) (h : SP (caught X x) pins D f s') : SP X pins D f s' := by
  cases f with
  | next => obtain ⟨σ', H', I, q⟩ := h; exact ⟨σ', H', inv_uncaught hX I, q⟩
  | brk => obtain ⟨σ', H', I, q⟩ := h; exact ⟨σ', H', inv_uncaught hX I, q⟩
  | cont => obtain ⟨σ', H', I, q⟩ := h; exact ⟨σ', H', inv_uncaught hX I, q⟩
  | ret u => obtain ⟨v, σ', H', I, r, q⟩ := h; exact ⟨v, σ', H', inv_uncaught hX I, r, q⟩
structure Old (X : Cx) (pins : List (Addr × Obj)) (h₁ : Heap) : Prop where
  s0 : ∀ b o, X.s₀.heap.get? b = some o → b ∉ X.ex → ∃ u, h₁.get? b = some u
  lo : ∃ u, h₁.get? X.env.locals = some u
  pn : ∀ p ∈ X.pn ++ pins, ∃ u, h₁.get? p.1 = some u
  ce : ∀ x c, X.env.cells.lookup x = some c → ∃ u, h₁.get? c = some u
theorem ne_of_get {h : Heap} {b : Addr} (e : ∃ u, h.get? b = some u) : h.get? b ≠ none := by
  obtain ⟨u, e⟩ := e
  rw [e]; simp
theorem inv_over {h₁ h' : Heap} {t' : Nat} (hst : X.stack = X.env :: X.outer) (hf : X.env.frame = some X.env.locals) (I : Inv X pins σ H s) (O : Old X pins h₁)
    (kp : ∀ b o, s.heap.get? b = some o → (h₁.get? b ≠ none ∨ H b ≠ none) → b ∉ frs X.stack → h'.get? b = some o)
    (sl : ∀ b o, s.heap.get? b = some o → b ∈ frs X.stack → ∃ sl, h'.get? b = some { o with slots := sl }) : Inv X pins σ H { s with heap := h', toks := t' } := by
  have sub : ∀ b ∈ X.fs, b ∈ frs X.stack := fun b hb => by
    obtain ⟨env, h1, h2⟩ := List.mem_filterMap.mp hb
    rw [hst]
    exact mem_frs (List.mem_cons_of_mem _ h1) h2
  have Lin : X.env.locals ∈ frs X.stack := by rw [hst]; exact mem_frs List.mem_cons_self hf
  have notin : ∀ b o, X.s₀.heap.get? b = some o → b ∉ X.fs → b ∉ frs X.stack := fun b o e hb hm => by
    rcases List.mem_cons.mp (I.stkSub b hm) with z | z
    · exact absurd (z ▸ Heap.lt_size e) (Nat.not_lt.mpr I.ok.above)
    · exact hb z
  have cellK : ∀ x c, X.env.cells.lookup x = some c → ∀ v, s.heap.IsCell c v → h'.IsCell c v := fun x c e v ⟨o, ho, hd⟩ => by
    by_cases hc : c ∈ frs X.stack
    · obtain ⟨z, q⟩ := sl c o ho hc
      exact ⟨_, q, hd⟩
    · exact ⟨o, kp c o ho (.inl (ne_of_get (O.ce x c e))) hc, hd⟩
  refine ⟨I.ok, I.os, I.bare, ⟨fun b o e n hb hx => ?_, fun b o e n hb hx => ?_, I.base.free, fun b o e hx => ?_, I.base.tups, I.base.frzs, I.base.tbls⟩, ?_, fun y c e => ?_, I.free, I.freeC, fun p hp => ?_, ?_, I.len⟩
  · exact kp b o (I.base.keep b o e n hb hx) (.inl (ne_of_get (O.s0 b o e hx))) (notin b o e hb)
  · obtain ⟨s1, e1⟩ := I.base.slot b o e n hb hx
    obtain ⟨s2, e2⟩ := sl b _ e1 (sub b hb)
    exact ⟨s2, e2⟩
  · obtain ⟨o1, e1⟩ := I.base.there b o e hx
    by_cases hm : b ∈ frs X.stack
    · obtain ⟨s2, e2⟩ := sl b _ e1 hm
      exact ⟨_, e2⟩
    · exact ⟨_, kp b o1 e1 (.inl (ne_of_get (O.s0 b o e hx))) hm⟩
  · obtain ⟨m, hn, hl⟩ := I.loc
    obtain ⟨o, es, ep, ho, r⟩ := hn
    obtain ⟨s2, e2⟩ := sl _ o ho Lin
    refine ⟨m, ⟨_, es, ep, e2, r⟩, fun i y v e1 e2 e3 => ?_⟩
    obtain ⟨u, r', l⟩ := hl i y v e1 e2 e3
    refine ⟨u, r', ?_⟩
    rcases l with l | ⟨k, c, e, z⟩
    · exact .inl l
    · exact .inr ⟨k, c, e, cellK y c e _ z⟩
  · obtain ⟨v, z⟩ := I.cell y c e
    exact ⟨v, cellK y c e v z⟩
  · obtain ⟨e, n, ne, nf, d⟩ := I.pin p hp
    refine ⟨kp p.1 p.2 e (.inl (ne_of_get (O.pn p hp))) fun hm => ?_, n, ne, nf, d⟩
    rcases List.mem_cons.mp (I.stkSub _ hm) with z | z
    · exact ne z
    · exact nf z
  · exact left_ok (h₁ := h₁) I kp
theorem flight_any {M : Model} {A : Around} {E : Value → Shared → Prop} {h₀ : Heap} {C : Value} {Q : Unit → Shared → Prop} (hx : ExcAt h₀ s.heap H x C)
    (h : ∀ h', (∀ b o, s.heap.get? b = some o → (h₀.get? b ≠ none ∨ H b ≠ none) → h'.get? b = some o) → (∀ b o, s.heap.get? b = some o → (∀ vs, o.data ≠ .fields vs) → h'.get? b = some o) → (∀ b o, s.heap.get? b = some o → ∃ u, h'.get? b = some u) → ExcAt h₀ h' H x C → Q () { s with heap := h' }) :
    wpAny M A (setFlight (.ref x) none) Q E s := by
  have hx0 := hx
  obtain ⟨oe, vs, he, hc, hd, hHx, h0x, htr⟩ := hx
  unfold setFlight
  rcases htr with h1 | ⟨Tr, oTr, tv, h1, hTx, hTr, hdTr, h3, hHT, h0T⟩
  · refine wpAny_bind (wpAny_field (s := s) he hd h1 ?_)
    rw [if_neg (by decide : ¬ ((Value.none != Value.none) = true))]
    exact wpAny_pure (h s.heap (fun _ _ q _ => q) (fun _ _ q _ => q) (fun _ o q => ⟨o, q⟩) hx0)
  · refine wpAny_bind (wpAny_field (s := s) he hd h1 ?_)
    rw [if_pos (by simp : (Value.ref Tr != Value.none) = true)]
    refine wpAny_setField (s := s) hTr hdTr (Array.getElem?_eq_some_iff.mp h3).1 ?_
    have oth : ∀ b, b ≠ Tr → (s.heap.update Tr (Obj.mapFields (·.setIfInBounds 3 Value.none))).get? b = s.heap.get? b := fun b nb => Heap.get?_update_other _ _ (Ne.symm nb)
    have hd' := Obj.data_mapFields hdTr (·.setIfInBounds 3 Value.none)
    have hT' := Heap.get?_update_self (Obj.mapFields (·.setIfInBounds 3 Value.none)) hTr (Obj.isFreed_of_fields hd')
    refine h _ (fun b o q hb => (oth b fun z => ?_).trans q) (fun b o q nf => (oth b fun z => ?_).trans q) (fun b o q => ?_) ⟨oe, vs, (oth x (Ne.symm hTx)).trans he, hc, hd, hHx, h0x, .inr ⟨Tr, _, _, h1, hTx, hT', hd', by simp [(Array.getElem?_eq_some_iff.mp h3).1], hHT, h0T⟩⟩
    · subst z
      rcases hb with g | g
      · exact g h0T
      · exact g hHT
    · subst z
      rw [hTr] at q; cases q
      exact nf tv hdTr
    · by_cases z : b = Tr
      · subst z; exact ⟨_, hT'⟩
      · exact ⟨o, (oth b z).trans q⟩
end
section
variable {X : Cx}
noncomputable def Clause (X : Cx) (y : Str) (cv : Value) : Prop := (Gl X y ∧ X.mg y = some cv) ∨ (Gl X y ∧ X.mg y = none ∧ bootBuiltins y = some cv ∧ y ≠ "__name__")
theorem clause_ld {E : Value → Shared → Prop} {pins : List (Addr × Obj)} {s : Shared} {σ : L2.St} {H : Hp} {y : Str} {cv : Value} {np : Pos} {Q : Value → Shared → Prop} (c : Clause X y cv) (I : Inv X pins σ H s) (hd : (y == ("__debug__" : Str)) = false) (h : Q cv s) :
    wpAny (model X.prog X.w) X.A (eval (.Name y np) X.env) Q E s := by
  rcases c with ⟨hg, hm⟩ | ⟨hg, hm, hb, hn⟩
  · exact ld_glob I hg hm h hd
  · exact ld_blt I hg hm hb h hn hd
end
end Lx
namespace Lx
open PySem PySem.Spec PyProof.Rows L2
theorem bits_lt {i : Int} {n : Nat} (h : i.natAbs < 2 ^ n) : Builtin.Int.intBits i ≤ n := by
  unfold Builtin.Int.intBits
  split
  · exact Nat.zero_le _
  · rcases Nat.eq_zero_or_pos i.natAbs with h0 | hp
    · rename_i hne
      exact absurd (Int.natAbs_eq_zero.mp h0) (by simpa using hne)
    · have := (Nat.log2_lt (Nat.ne_of_gt hp)).mpr h
      omega
noncomputable def Wee (i : Int) : Prop := i.natAbs < 2 ^ 8000
theorem Wee.bits {i : Int} (h : Wee i) : Builtin.Int.intBits i ≤ 8000 := bits_lt h
theorem mulOk {i j : Int} (hi : Wee i) (hj : Wee j) : IntMulOk i j := IntMulOk.of_le hi.bits hj.bits (by decide)
theorem mulOkBig {i j : Int} (hi : Builtin.Int.intBits i ≤ 10000000) (hj : Wee j) : IntMulOk i j := IntMulOk.of_le hi hj.bits (by decide)
theorem wee_log {i : Int} (h : Wee i) : i.natAbs.log2 < 9000 := by
  rcases Nat.eq_zero_or_pos i.natAbs with h0 | hp
  · rw [h0]; decide
  · have := (Nat.log2_lt (Nat.ne_of_gt hp)).mpr h
    omega
noncomputable def CMulB (i j : Int) : Prop := IntMulOk i j
noncomputable def CDivB (i j : Int) : Prop := 0 < j ∧ Wee j
noncomputable def CDivW (i j : Int) : Prop := j ≠ 0 ∧ Wee j
section
variable {X : Cx}
theorem op_mulB : OpR X (binaryOp .Mult) (rI CMulB fun i j => .int (i * j)) := opI fun _ _ _ _ _ _ _ hc q => mul_int q hc
theorem op_fdivW : OpR X (binaryOp .FloorDiv) (rI CDivW fun i j => .int (i.fdiv j)) := opI fun _ _ _ _ _ _ _ hc q => floordiv_int hc.1 q (.inl (PyProof.noPylong_of_log2 (wee_log hc.2)))
theorem op_fdivB : OpR X (binaryOp .FloorDiv) (rI CDivB fun i j => .int (i / j)) := opI fun i j _ _ _ _ _ hc q => by
  have h0 : (0 : Int) < j := hc.1
  refine floordiv_int (Int.ne_of_gt h0) ?_ (.inl (PyProof.noPylong_of_log2 (wee_log hc.2)))
  rw [Int.fdiv_eq_ediv_of_nonneg _ (Int.le_of_lt h0)]
  exact q
end
theorem isi_ty {n : String} : ∀ u, RelV (.ty n) u → u = .type n := fun _ h => h
theorem isi_ref {a : Addr} : ∀ u, RelV (.ref a) u → u = .ref a := fun _ h => h
theorem bits_of_lay {ns : List Int} (h : PySem.W.WData.layableAll [PySem.W.WData.list (ns.map PySem.W.WData.int)] = true) : ∀ v ∈ ns, Builtin.Int.intBits v ≤ 1048576 := fun v hv => by
  have h1 := PySem.W.layableW_arg h _ (List.mem_singleton.mpr rfl)
  have h2 := PySem.W.layableW_item h1 (PySem.W.WData.int v) (List.mem_map.mpr ⟨v, hv, rfl⟩)
  obtain ⟨_, _, h3⟩ := PySem.W.layableW_iff.mp h2
  have e : (2 : Nat) ^ 20 = 1048576 := by decide
  rw [e] at h3
  simpa only [PySem.W.WData.weight, Builtin.Int.intBits] using h3
end Lx
namespace Att
open PySem PySem.W PySem.Calls PyProof.Rows
theorem attachB {l : OpenLaw} {n : Nat} {q : Program} {loose : List Str} {XP : (Str → Option Value) → Heap → Prop} {YP : World → Heap → Prop} {d : DefRec}
    (hn : l.most = some n) (hdf : d.params.defaults = [])
    (call : ∀ (w : World) (s₀ s₁ : Shared) (mg mb : Str → Option Value) (fa : Addr) (o : Obj) (pm cd doc : Value) (a : Addr) (vs : List Value) (ns : List Int),
      Ground q loose [] XP w s₀ mg mb s₁.heap → YP w s₁.heap →
      s₁.heap.get? fa = some o → o.data = .func (docDef d.name d.params d.body d.scope pm cd doc) → s₁.heap.CodeRec cd d.name → mg d.name = some (.ref fa) →
      s₁.heap.get? a = some { cls := .type "list", data := .seq vs.toArray } → IntsAre vs ns → ns.length ≤ n → (∀ v ∈ ns, Builtin.Int.intBits v ≤ 1048576) → s₁.gens = #[] →
      codeAny (model l.prog w) callerA (.call (.ref fa) ⟨[.ref a], []⟩) (fun r s' => r = .ok (.ret (.bool true)) ∧ OldK s₁.heap s'.heap ∧ s'.os = s₁.os ∧ AllBare s'.gens) s₁) :
    WalkO q loose XP YP l.row.toRowW d [] (fun f vs => PySem.call f vs) := by
  intro w s₀ s₁ mg mb G Y fa o pm cd doc dV kV ho hd hcd hD hmg hg args vals as hpre hlay hrd hwl hlo
  obtain rfl : dV = .none := Dflts.none hD hdf
  obtain rfl : kV = .none := Dflts.noKw hD
  obtain ⟨a, vs, ns, rfl, rfl, hobj, hints, hlen⟩ := script_of hn hpre hwl
  refine enter_call (codeAny_mono (call w s₀ s₁ mg mb fa o pm cd doc a vs ns G Y ho (fd_plain hd) hcd hmg hobj hints hlen (Lx.bits_of_lay hlay) hg) fun r s' hq => ?_)
  obtain ⟨rfl, h2, h3, h4⟩ := hq
  exact ⟨.inl ⟨.bool true, .bool true, [], rfl, fun _ => rfl, .bool true, post_true l _, fun _ => ⟨List.Pairwise.nil, fun _ hm => (nomatch hm)⟩⟩, h2, h3, h4⟩
end Att
namespace Lx
open PySem PySem.Spec PyProof.Rows L2
noncomputable def spLaw (K : PySem.W.Frag) : Sp := fun vs H Q _ => ∃ (a : Addr) (ns : List Int), vs = [.ref a] ∧ SqL K H a (ns.map V.int) ∧ ns.length ≤ 63 ∧ (∀ v ∈ ns, Builtin.Int.intBits v ≤ 1048576) ∧ Only H ∧ ∀ H', Q (.bl true) H'
theorem walkB {l : PySem.W.OpenLaw} {k : Nat} {q : Program} {loose : List Str} {XP : (Str → Option Value) → Heap → Prop} {YP : World → Heap → Prop} {d : DefRec} {K : Params → PySem.W.Frag}
    (hn : l.most = some 63) (hdf : d.params.defaults = []) (hr : Room k callerA)
    (hY : ∀ (w : World) (h : Heap), YP w h → (K w.params).In h)
    (F : ∀ (w : World) (mg : Str → Option Value) (fa : Addr) (h : Heap), (K w.params).In h → h.Ns mainGlobals mg → mg d.name = some (.ref fa) →
      ∃ fd : FuncData, (∀ (s : Shared) (u : Value), BindsTo s fd ⟨[u], []⟩ [("script", u)]) ∧
        ∀ base : Heap, (K w.params).In base → base.Ns mainGlobals mg → FnOk l.prog w (K w.params) mg base (CXE l.prog w) k fa fd ["script"] (spLaw (K w.params))) :
    PySem.W.WalkO q loose XP YP l.row.toRowW d [] (fun f vs => PySem.call f vs) := by
  refine Att.attachB hn hdf fun w s₀ s₁ mg mb fa o pm cd doc a vs ns G Y ho hd hcd hmg hobj hints hlen hbits hg => ?_
  have KX := hY w _ Y
  obtain ⟨fd, hb, hF⟩ := F w mg fa _ KX G.T.g hmg
  exact law_call KX G.T.g G.T.b G.T.builtins G.T.nolimit hg hobj hints (Nat.le_trans hlen (by decide)) hr hF hb (fun H hO hS => ⟨a, ns, rfl, hS, hlen, hbits, hO, fun _ => rfl⟩) fun H e s' ⟨_, _, _, _, _, _, _, _, _, h⟩ => h
end Lx
namespace Lx
open PySem PySem.Spec PyProof.Rows L2
noncomputable def Its (lo st : Int) (n : Nat) : It := ⟨fun i _ => i < n, fun i H x H' => H' = H ∧ x = .int (lo + i * st), fun i _ => n ≤ i⟩
theorem turn_rangeS {P : Program} {w : World} {K : PySem.W.Frag} {tg : Expr} (it : Addr) (lo st : Int) (n : Nat) : Turn P w K tg (Its lo st n) [it] it (fun i h => IsRangeIter h it (lo + (i : Nat) * st) ((n : Int) - (i : Nat)) st) where
  mem := by simp
  obj := fun i h z b hb => by
    have e : b = it := by simpa using hb
    subst e
    exact ⟨_, z, fun v y => by
      have y' : Data.fields _ = Data.cell v := y
      cases y'⟩
  keep := fun i h h' z k => k it (by simp) _ z
  item := by
    intro X hP hw hK hc i pins s σ H E I hf z hg
    subst hP hw hK
    obtain ⟨f0, f1, f2, f3, f4, f5⟩ := hf it (by simp)
    have W := Walks.range (prog := X.prog) (w := X.w) (I.ok.hd hc) it lo st n
    refine W.item i s _ _ hg z fun v h' tk hv z' kk => ?_
    obtain ⟨t, rfl⟩ := hv
    have I1 : Inv X pins σ H { s with heap := h', toks := tk } := I.turned (fun b o hb e => kk b o (by simpa using hb) e) f0 f1 f3 f4 f5
    exact ⟨_, rfl, go_of (s := { s with heap := h', toks := tk }) (n := "range_iterator") z' rfl rfl (by decide) ⟨.int (lo + i * st), H, I1, ⟨t, rfl⟩, ⟨rfl, rfl⟩, z', fun b hb => (hf b hb).1⟩⟩
  done := by
    intro X hP hw hK hc i pins s σ H E I hf z hg
    subst hP hw hK
    obtain ⟨f0, f1, f2, f3, f4, f5⟩ := hf it (by simp)
    exact wpAny_pyNext_range_end (I.ok.hd hc) z (by have : n ≤ i := hg; omega) fun h' eb => ⟨rfl, I.turned (t' := s.toks) (fun b o hb e => eb b o hb e) f0 f1 f3 f4 f5⟩
  self := fun _ _ _ _ _ z h => wpAny_pyIter_rangeiter z h
section
variable {X : Cx} {tg : Expr}
theorem range_itS {pins : List (Addr × Obj)} {σ : L2.St} {H : Hp} {s : Shared} {R : It → Hp → Prop} {E : Value → Shared → Prop} {lo hi st : Int} {n : Nat} {t u v : Tok} {tk : Nat} (I : Inv X pins σ H s) (hsm : Builtin.Range.small lo hi st = true) (hn : Builtin.Range.rangeSize lo hi st = (n : Int))
    (q : R (Its lo st n) H) : wpAny (model X.prog X.w) X.A (pyIter (.ref s.heap.objs.size)) (PIE X pins σ tg R) E { s with heap := s.heap.push { cls := .type "range", data := .fields #[.int lo t, .int hi u, .int st v] }, toks := tk } := by
  refine wpAny_pyIter_range (IsRange.new ..) hsm ?_
  have I1 : Inv X pins σ H { s with heap := s.heap.push { cls := .type "range", data := .fields #[.int lo t, .int hi u, .int st v] }, toks := tk } := I.kept fun b o e => Heap.get?_push_of_some _ e
  refine ⟨(s.heap.push { cls := .type "range", data := .fields #[.int lo t, .int hi u, .int st v] }).objs.size, [(s.heap.push { cls := .type "range", data := .fields #[.int lo t, .int hi u, .int st v] }).objs.size], _, _, H, rfl,
    I1.kept (t' := tk) fun b o e => Heap.get?_push_of_some _ e, turn_rangeS _ lo st n, ?_, fun b hb => ?_, q⟩
  · have e1 : lo + ((0 : Nat) : Int) * st = lo := by simp
    have e2 : (n : Int) - ((0 : Nat) : Int) = Builtin.Range.rangeSize lo hi st := by rw [hn]; simp
    show IsRangeIter _ _ (lo + ((0 : Nat) : Int) * st) ((n : Int) - ((0 : Nat) : Int)) st
    rw [e1, e2]
    exact Heap.get?_push_size _ rfl
  · have e : b = (s.heap.push { cls := .type "range", data := .fields #[.int lo t, .int hi u, .int st v] }).objs.size := by simpa using hb
    subst e
    exact I1.fpOk (Nat.le_refl _) (I1.hok.fresh (Nat.le_refl _))
noncomputable def iRng3 (ta : TA) : TI := fun σ H R => ta σ H fun vs H1 => ∃ (i j k : Int), vs = [.int i, .int j, .int k] ∧ ∃ n : Nat, k ≠ 0 ∧ k.natAbs < 1000000 ∧ Builtin.Range.small i j k = true ∧ Builtin.Range.rangeSize i j k = (n : Int) ∧ R (Its i k n) H1
theorem pi_range3 {a b c : Expr} {ta : TA} {p pos : Pos} (hg : Gl X "range") (hm : X.mg "range" = none) (ha : PA X [a, b, c] ta) (hs : starEach [a, b, c] X.env = [(false, eval a X.env), (false, eval b X.env), (false, eval c X.env)] := by rfl) (hs2 : starEach [b, c] X.env = [(false, eval b X.env), (false, eval c X.env)] := by rfl) :
    PI X tg (.Call (.Name "range" p) [a, b, c] [] pos) (iRng3 ta) := by
  intro pins s σ H R I h
  refine Call_ (ld_blt I hg hm boot_range (PyProof.Rows.callWith_type1 (thn (ha pos pins s σ H _ I h) fun us s1 ⟨vs, H1, I1, r1, q1⟩ => ?_) (by rw [hs, hs2]) (by rw [hs2]; rfl)))
  obtain ⟨i, j, k, e, n, q1, q2, q3, q4, q⟩ := q1
  subst e
  cases r1 with
  | cons r rr =>
    cases rr with
    | cons r' rr =>
      cases rr with
      | cons r'' rr =>
        cases rr
        obtain ⟨t, rfl⟩ := r
        obtain ⟨t', rfl⟩ := r'
        obtain ⟨t'', rfl⟩ := r''
        exact call_range_3 q1 (range_itS I1 q3 q4 q) (Or.inl (PyProof.noPylong_small (by omega)))
end
theorem rng_small {i j k : Int} (hi : -(2 ^ 40) < i ∧ i < 2 ^ 40) (hj : -(2 ^ 40) < j ∧ j < 2 ^ 40) (hk : 0 < k ∧ k < 1000000) : Builtin.Range.small i j k = true := by
  unfold Builtin.Range.small Builtin.Range.rangeSize
  have h1 : ∀ z : Int, 0 ≤ z → z / k ≤ z := fun z hz => Int.ediv_le_self _ hz
  have h2 : ∀ z : Int, 0 ≤ z → 0 ≤ z / k := fun z hz => Int.ediv_nonneg hz (by omega)
  have hk0 : k > 0 := hk.1
  simp only [Builtin.Range.rangeFitsLong, Bool.and_eq_true, Bool.or_eq_true, decide_eq_true_eq, beq_iff_eq, hk0, if_true]
  split
  · have a1 := h1 (j - i - 1) (by omega)
    have a2 := h2 (j - i - 1) (by omega)
    generalize (j - i - 1) / k = z at a1 a2 ⊢
    omega
  · omega
end Lx
namespace Lx
open PySem PySem.Spec PyProof.Rows L2
section
variable {prog : Program} {w : World} {A : Around} {R : Result → Shared → Prop} {s : Shared}
theorem lc_loop {elt target iter : Expr} {ifs : List Expr} {scope : Scope} {pos : Pos} {it acc : Value} {cenv : Env} (J : Nat → Shared → Prop)
    (turn : ∀ n s, J n s → ∀ E' : Value → Shared → Prop, wpAny (model prog w) A (pyNext it) (fun r sa => match r with
      | none => R (.ok .next) sa
      | some v => wpAny (model prog w) A (letOwnedTupleGo target it v) (fun _ sb => wpAny (model prog w) A (assign target cenv v) (fun _ sc =>
          wpAny (model prog w) A (forIn ifs true fun c r => if r = true then do let ok ← isTrue c cenv (eval c cenv); pure (ForInStep.yield ok) else pure (ForInStep.yield r)) (fun ok sd =>
            if ok = true then wpAny (model prog w) A (eval elt cenv) (fun x se =>
              wpAny (model prog w) A (call (.builtin "list.append") [acc, x]) (fun _ sf => ∃ m, m < n ∧ J m sf) E' se) E' sd
            else ∃ m, m < n ∧ J m sd) E' sc) E' sb) E' sa) E' s)
    (n : Nat) (h : J n s) : codeAny (model prog w) A (.compLoop (.ListComp elt [⟨target, iter, ifs, 0⟩] scope pos) 0 it acc cenv) R s := by
  refine codeAny_loop rfl J (fun k sk hJ => ?_) n h
  show wpAny _ A ((compTurn (.ListComp elt [⟨target, iter, ifs, 0⟩] scope pos) 0 it acc cenv).onRaise (fun y => do noteFrame y cenv; theTreesLotGoes y)) _ _ sk
  refine wpAny_noted ?_
  rw [compTurn_list]
  refine wpAny_bind (wpAny_standAt (wpAny_bind (wpAny_mono (turn k sk hJ _) (fun r sa ha => ?_) fun _ _ z => z)))
  cases r with
  | none => exact wpAny_pure ha
  | some v =>
    refine wpAny_bind (wpAny_mono ha (fun _ sb hb => wpAny_bind (wpAny_mono hb (fun _ sc hc => wpAny_bind (wpAny_mono hc (fun ok sd hd => ?_) fun _ _ z => z)) fun _ _ z => z)) fun _ _ z => z)
    cases ok with
    | false => exact wpAny_pure ⟨rfl, hd⟩
    | true => exact wpAny_bind (wpAny_bind (wpAny_mono hd (fun x se he => wpAny_bind (wpAny_mono he (fun _ sf hf => wpAny_pure (wpAny_pure ⟨rfl, hf⟩)) fun _ _ z => z)) fun _ _ z => z))
end
noncomputable def lcCx (X : Cx) (scope : Scope) (cl : List (Str × Addr)) (NC : List Str) (C : Addr) (s₀ : Shared) (H₀ : Hp) (fp : List Addr) : Cx where
  prog := X.prog
  w := X.w
  K := X.K
  mg := X.mg
  base := X.base
  A := X.A
  N := NC
  s₀ := s₀
  H₀ := H₀
  env := compEnvC scope cl C X.env
  outer := X.stack
  stack := X.stack
  ex := fp
  fn := fun _ => false
  calm := X.calm
  pn := []
  xe := fun _ _ => False
noncomputable def CapsOk (X : Cx) (scope : Scope) (cl : List (Str × Addr)) : List (Option Nat) → List Str → Prop
  | [], [] => True
  | none :: cs, _ :: ns => CapsOk X scope cl cs ns
  | some i :: cs, y :: ns => (∃ c, X.N[i]? = some y ∧ X.env.scope.names.lookup y = some .cell ∧ cl.lookup y = some c ∧ X.env.cells.lookup y = some c ∧ (relabel scope X.env).names.lookup y = some .cell) ∧ CapsOk X scope cl cs ns
  | _, _ => False
theorem CapsOk.at {X : Cx} {scope : Scope} {cl : List (Str × Addr)} : ∀ {cs : List (Option Nat)} {ns : List Str} {j i : Nat} {y : Str}, CapsOk X scope cl cs ns → cs[j]? = some (some i) → ns[j]? = some y →
    ∃ c, X.N[i]? = some y ∧ X.env.scope.names.lookup y = some .cell ∧ cl.lookup y = some c ∧ X.env.cells.lookup y = some c ∧ (relabel scope X.env).names.lookup y = some .cell
  | [], _, j, i, y, _, e, _ => by simp at e
  | none :: cs, [], _, _, _, h, _, _ => False.elim h
  | some _ :: cs, [], _, _, _, h, _, _ => False.elim h
  | none :: cs, _ :: ns, 0, i, y, h, e, _ => by simp at e
  | none :: cs, _ :: ns, j + 1, i, y, h, e, e' => CapsOk.at (cs := cs) (ns := ns) (j := j) h (by simpa using e) (by simpa using e')
  | some k :: cs, z :: ns, 0, i, y, h, e, e' => by
    have e1 : k = i := by simpa using e
    have e2 : z = y := by simpa using e'
    subst e1; subst e2
    exact h.1
  | some k :: cs, z :: ns, j + 1, i, y, h, e, e' => CapsOk.at (cs := cs) (ns := ns) (j := j) h.2 (by simpa using e) (by simpa using e')
theorem CapsOk.len {X : Cx} {scope : Scope} {cl : List (Str × Addr)} : ∀ {cs : List (Option Nat)} {ns : List Str}, CapsOk X scope cl cs ns → cs.length = ns.length
  | [], [], _ => rfl
  | [], _ :: _, h => False.elim h
  | none :: cs, [], h => False.elim h
  | some _ :: cs, [], h => False.elim h
  | none :: cs, _ :: ns, h => congrArg (· + 1) (CapsOk.len (cs := cs) (ns := ns) h)
  | some _ :: cs, _ :: ns, h => congrArg (· + 1) (CapsOk.len (cs := cs) (ns := ns) h.2)
noncomputable def capσ (cap : List (Option Nat)) (σ : L2.St) : L2.St := cap.map fun o => o.bind fun i => (σ[i]?).bind id
noncomputable def PTs (X : Cx) (ifs : List Expr) (t : TT) : Prop :=
  ∀ (pins : List (Addr × Obj)) (s : Shared) (σ : L2.St) (H : Hp) (Q : Bool → Hp → Prop), Inv X pins σ H s → t σ H Q →
    wpAny (model X.prog X.w) X.A (forIn ifs true fun c r => if r = true then do let ok ← isTrue c X.env (eval c X.env); pure (ForInStep.yield ok) else pure (ForInStep.yield r)) (TP X pins σ Q) X.xe s
noncomputable def tYes : TT := fun _ H Q => Q true H
theorem pts_nil {X : Cx} : PTs X [] tYes := fun _ _ _ H _ I h => wpAny_tests_nil ⟨H, I, h⟩
noncomputable def tLC (wi : TI) (cap : List (Option Nat)) (g : TG) (tt : TT) (te : TE) : TE := fun σ H Q => wi σ H fun J H1 => ∀ D, H1 D = none →
  ∃ W : Nat → Nat → L2.St → Hp → Prop, (∃ m, W 0 m (capσ cap σ) (upd H1 D (.lst []))) ∧ ∀ i m σc Hc, W i m σc Hc →
    (J.stop i Hc ∧ Q (.ref D) Hc) ∨ (J.go i Hc ∧ ∃ N : L2.St → Hp → Prop, (∀ σ' H', N σ' H' → ∃ m', m' < m ∧ W (i + 1) m' σ' H') ∧ ∀ x H', J.yld i Hc x H' → g x σc H' fun σ2 H2 => tt σ2 H2 fun b H3 =>
      if b = true then te σ2 H3 fun y H4 => ∃ ys, H4 D = some (.lst ys) ∧ ys.length < sizeLine ∧ N σ2 (upd H4 D (.lst (ys ++ [y]))) else N σ2 H3)
structure LcOk (X : Cx) (scope : Scope) (cl : List (Str × Addr)) (cap : List (Option Nat)) (NC : List Str) : Prop where
  clos : closureFor scope X.env = pure cl
  kind : scope.kind = .function
  nocell : ∀ x ∈ scope.names, x.2 ≠ .cell
  names : ∀ x ∈ scope.names, x.2 = .local → scope.names.lookup x.1 = some .local
  caps : CapsOk X scope cl cap NC
  cells : ∀ p ∈ cl, X.env.cells.lookup p.1 = some p.2
  has : ((relabel scope X.env).names.all fun p => (p.2 != .cell && p.2 != .free) || (cl.lookup p.1).isSome) = true
section
variable {X : Cx} {elt target iter : Expr} {ifs : List Expr} {scope : Scope} {pos : Pos} {wi : TI} {cap : List (Option Nat)} {NC : List Str} {cl : List (Str × Addr)} {g : TG} {tt : TT} {te : TE}
theorem lc_cells (L : LcOk X scope cl cap NC) {x : Str} {c : Addr} (h : cl.lookup x = some c) : X.env.cells.lookup x = some c := L.cells (x, c) (PySem.mem_of_lookup h)
theorem lc_block {pins : List (Addr × Obj)} {σ : L2.St} {s₂ : Shared} {H2 : Hp} {it : Addr} {fp : List Addr} {tn : Nat → Heap → Prop} {J : It} {Z : Value → Addr → Result → Shared → Prop} {G : V → Hp → Prop}
    (hc : X.calm = true) (L : LcOk X scope cl cap NC) (hg : ∀ C s₀ H₀ fp, PG (lcCx X scope cl NC C s₀ H₀ fp) target g) (ht : ∀ C s₀ H₀ fp, PTs (lcCx X scope cl NC C s₀ H₀ fp) ifs tt) (he : ∀ C s₀ H₀ fp, PE (lcCx X scope cl NC C s₀ H₀ fp) elt te)
    (I2 : Inv X pins σ H2 s₂) (T : Turn X.prog X.w X.K target J fp it tn) (st2 : tn 0 s₂.heap) (f2 : ∀ b ∈ fp, FpOk X pins H2 b)
    (hW : ∀ D, H2 D = none → ∃ W : Nat → Nat → L2.St → Hp → Prop, (∃ m, W 0 m (capσ cap σ) (upd H2 D (.lst []))) ∧ ∀ i m σc Hc, W i m σc Hc →
      (J.stop i Hc ∧ G (.ref D) Hc) ∨ (J.go i Hc ∧ ∃ N : L2.St → Hp → Prop, (∀ σ' H', N σ' H' → ∃ m', m' < m ∧ W (i + 1) m' σ' H') ∧ ∀ x H', J.yld i Hc x H' → g x σc H' fun σ2 H2 => tt σ2 H2 fun b H3 =>
        if b = true then te σ2 H3 fun y H4 => ∃ ys, H4 D = some (.lst ys) ∧ ys.length < sizeLine ∧ N σ2 (upd H4 D (.lst (ys ++ [y]))) else N σ2 H3))
    (hZ : ∀ (D C : Addr) (Hc : Hp) (s' : Shared) (m : Str → Option Value), s'.heap.Ns C m → (∀ h', Heap.SameBut C s'.heap h' → ∀ t', Inv X pins σ Hc { s' with heap := h', toks := t' }) → FpOk X pins Hc C → G (.ref D) Hc → Z (.ref D) C (.ok .next) s') {E : Value → Shared → Prop} :
    wpAny (model X.prog X.w) X.A (newList []) (fun acc s₃ => wpAny (model X.prog X.w) X.A (newFunctionEnv scope X.env.globals cl [] X.env.qual none .none (some X.env)) (fun cenv s₄ =>
      codeAny (model X.prog X.w) X.A (.compStart (.ListComp elt [⟨target, iter, ifs, 0⟩] scope pos) 0 (.ref it) acc { cenv with scope := relabel scope X.env }) (Z acc cenv.locals) s₄) E s₃) E s₂ := by
  refine wpAny_newObj_type (wpAny_newFunctionEnv L.nocell (by intro y hy; simp at hy) (fun h₁ hns₁ hsb₁ => ?_) L.kind)
  dsimp only at hns₁ hsb₁ ⊢
  have nD : H2 s₂.heap.objs.size = none := I2.hok.fresh (Nat.le_refl _)
  have I3 : Inv X pins σ (upd H2 s₂.heap.objs.size (.lst [])) { s₂ with heap := s₂.heap.push { cls := .type "list", dict := none, data := .seq ([] : List Value).toArray } } := by
    refine I2.laid (t' := s₂.toks) (fun b u e => Heap.get?_push_of_some _ e) (Nat.le_refl _) ?_
    exact ⟨Nat.zero_le _, [], 0, .nil, Heap.get?_push_size _ rfl⟩
  obtain ⟨W, ⟨m0, w0⟩, turn⟩ := hW s₂.heap.objs.size nD
  generalize hD : s₂.heap.objs.size = D at nD I3 turn w0 ⊢
  generalize hH : s₂.heap.push { cls := .type "list", dict := none, data := .seq ([] : List Value).toArray } = h₀ at hns₁ hsb₁ I3 ⊢
  have hpush : ∀ b o, s₂.heap.get? b = some o → h₀.get? b = some o := fun b o e => by rw [← hH]; exact Heap.get?_push_of_some _ e
  generalize hC : h₀.objs.size = C at hns₁ hsb₁ ⊢
  have belowC : ∀ b o, h₀.get? b = some o → b ≠ C := fun b o e z => by
    have := Heap.lt_size e
    rw [hC, ← z] at this
    exact Nat.lt_irrefl _ this
  have old : ∀ b o, h₀.get? b = some o → h₁.get? b = some o := fun b o e => hsb₁.extBut b o (belowC b o e) (Heap.get?_push_of_some _ e)
  have f3 : ∀ b ∈ fp, FpOk X pins (upd H2 D (.lst [])) b := fun b hb => by
    obtain ⟨x1, x2⟩ := f2 b hb
    obtain ⟨o, e, _⟩ := T.obj 0 _ st2 b hb
    refine ⟨?_, x2⟩
    rw [upd_ne (fun z => by have := Heap.lt_size e; rw [z, ← hD] at this; exact Nat.lt_irrefl _ this)]
    exact x1
  have fpC : ∀ b ∈ fp, b ≠ C := fun b hb => by
    obtain ⟨o, e, _⟩ := T.obj 0 _ st2 b hb
    exact belowC b o (hpush b o e)
  have clC : ∀ x c, cl.lookup x = some c → c ≠ C := fun x c e => by
    obtain ⟨v, o, ho, _⟩ := I3.cell x c (lc_cells L e)
    exact belowC c o ho
  let Y : Cx := lcCx X scope cl NC C { s₂ with heap := h₀ } (upd H2 D (.lst [])) fp
  have noC : (upd H2 D (.lst [])) C = none := I3.hok.fresh (by show h₀.objs.size ≤ C; rw [hC]; exact Nat.le_refl _)
  have okY : Y.Ok := by
    refine ⟨I3.ok.mod, by show (relabel scope X.env).kind = _; exact L.kind, I3.ok.glob, I3.ok.blt, by show h₀.objs.size ≤ C; rw [hC]; exact Nat.le_refl _, fun x y c e1 e2 => I3.ok.inj x y c (lc_cells L e1) (lc_cells L e2), fun x hx => ?_, fun x c z => (by cases z), I3.ok.hd, I3.ok.frames, .inl rfl, fun b hb => ⟨fpC b hb, fun x c e => (f3 b hb).2.2.2.2.1 x c (lc_cells L e)⟩, I3.bs, Nat.le_trans I3.ok.bsz I3.sz, fun b o e hb => ?_, fun b hb hm => ?_, I3.stack, I3.stkFree⟩
    · have mem : ∃ k, (x, k) ∈ (relabel scope X.env).names ∧ (k = .cell ∨ k = .free) := by
        rcases hx with z | z
        · exact ⟨_, PySem.mem_of_lookup z, .inl rfl⟩
        · exact ⟨_, PySem.mem_of_lookup z, .inr rfl⟩
      obtain ⟨k, hk, hk2⟩ := mem
      have q := List.all_eq_true.mp L.has (x, k) hk
      have q2 : (cl.lookup x).isSome = true := by
        rcases hk2 with z | z
        · subst z; simpa using q
        · subst z; simpa using q
      exact Option.isSome_iff_exists.mp q2
    · rcases (f3 b hb).2.2.2.1 with z | z
      · exact I3.ok.noex b o e z
      · exact absurd (Nat.lt_of_lt_of_le (Heap.lt_size e) (Nat.le_trans I3.ok.bsz z)) (Nat.lt_irrefl _)
    · rcases List.mem_cons.mp (I3.stkSub b hm) with z | z
      · exact (f3 b hb).2.1 z
      · exact (f3 b hb).2.2.1 z
  have stat : ∀ {Hc : Hp}, (∀ b ∈ fp, Hc b = none) → ∀ b ∈ fp, FpOk Y [] Hc b := fun hn b hb =>
    ⟨hn b hb, fpC b hb, okY.exfs b hb, .inl hb, fun x c e => (okY.exf b hb).2 x c e, fun p hp => absurd (show p ∈ ([] ++ [] : List (Addr × Obj)) from hp) (by simp)⟩
  have back : ∀ {σc : L2.St} {Hc : Hp} {s' : Shared} {pn : List (Addr × Obj)}, Inv Y pn σc Hc s' → ∀ h', Heap.SameBut C s'.heap h' → ∀ t', Inv X pins σ Hc { s' with heap := h', toks := t' } := fun {σc Hc s' pn} I' h' sb t' => by
    have u := I'.base
    have nC : Hc C = none := I'.free
    refine I3.call' (s' := { s' with heap := h', toks := t' }) (ch := fp) I'.os ⟨fun b o e n hb hx => ?_, fun b o e n hb hx => ?_, u.free, fun b o e hx => ?_, u.tups, u.frzs, u.tbls⟩ (fun b o e => ?_) I'.bare (fun b hb => ⟨(f3 b hb).2.2.2.1, (f3 b hb).2.1, (f3 b hb).2.2.2.2.1, (f3 b hb).2.2.2.2.2⟩)
    · exact (sb.2 b (belowC b o e)).trans (u.keep b o e n hb hx)
    · obtain ⟨sl, q⟩ := u.slot b o e n hb hx
      exact ⟨sl, (sb.2 b (belowC b o e)).trans q⟩
    · obtain ⟨o', q⟩ := u.there b o e hx
      exact ⟨o', (sb.2 b (belowC b o e)).trans q⟩
    · refine (I'.hok b o e).stay (fun c v hcb q => (sb.2 c ?_).trans q) (fun _ q => q) fun _ _ q => q
      rintro rfl
      rcases hcb with z | z
      · subst z
        rw [nC] at e; cases e
      · rw [nC] at z; cases z
  have Ist : ∀ t', Inv Y [] (capσ cap σ) (upd H2 D (.lst [])) { s₂ with heap := h₁, toks := t' } := fun t' => by
    refine ⟨okY, rfl, I3.bare, ⟨fun b o e _ _ _ => old b o e, fun b o e _ _ _ => ⟨o.slots, old b o e⟩, fun _ _ _ n _ => n, fun b o e _ => ⟨o, old b o e⟩, fun _ _ e => e, fun _ _ _ e => e, fun b ps e => ⟨#[], by rw [show (upd H2 D (.lst [])) b = _ from e]; simp⟩⟩, ⟨_, hns₁, fun j y v e1 e2 e3 => ?_⟩, fun y c e => ?_, noC, fun y c e => I3.freeC y c (lc_cells L e), fun p hp => absurd (show p ∈ ([] ++ [] : List (Addr × Obj)) from hp) (by simp), I3.hok.kept old, by
      show (cap.map _).length = NC.length
      rw [List.length_map]; exact L.caps.len⟩
    · have e2' : (cap.map fun o => o.bind fun i => (σ[i]?).bind id)[j]? = some (some v) := e2
      rw [List.getElem?_map] at e2'
      cases hq : cap[j]? with
      | none => rw [hq] at e2'; cases e2'
      | some o =>
        rw [hq] at e2'
        cases o with
        | none => cases e2'
        | some i =>
          have e4 : (σ[i]?).bind id = some v := by simpa using e2'
          have e5 : σ[i]? = some (some v) := by
            cases hs : σ[i]? with
            | none => rw [hs] at e4; cases e4
            | some z => rw [hs] at e4; simpa using e4
          obtain ⟨c, x1, x2, x3, x4, x5⟩ := L.caps.at hq e1
          obtain ⟨m, hn, hl⟩ := I3.loc
          obtain ⟨u, r, l⟩ := hl i y v x1 e5 (.inr (.inl x2))
          refine ⟨u, r, .inr ⟨.inl x5, c, x3, ?_⟩⟩
          rcases l with ⟨k, _⟩ | ⟨_, c', x6, z⟩
          · have k' : X.env.scope.names.lookup y = some .local := k
            rw [x2] at k'; cases k'
          · rw [x4] at x6; cases x6
            obtain ⟨o, ho, hd⟩ := z
            exact ⟨o, old _ _ ho, hd⟩
    · obtain ⟨v, o, ho, hd⟩ := I3.cell y c (lc_cells L e)
      exact ⟨v, o, old _ _ ho, hd⟩
  have loop : ∀ s₃ : Shared, s₃ = { s₂ with heap := h₁, toks := s₂.toks + ([] : List (Str × Value)).length } →
      codeAny (model X.prog X.w) X.A (.compLoop (.ListComp elt [⟨target, iter, ifs, 0⟩] scope pos) 0 (.ref it) (.ref D) (compEnvC scope cl C X.env)) (Z (.ref D) C) s₃ := by
    rintro s₃ rfl
    refine lc_loop (fun n s' => ∃ i σc Hc, Inv Y [] σc Hc s' ∧ tn i s'.heap ∧ (∀ b ∈ fp, Hc b = none) ∧ W i n σc Hc) ?_ m0 ⟨0, capσ cap σ, _, Ist _, T.keep _ _ _ st2 (fun b hb o e => old b o (hpush b o e)), fun b hb => (f3 b hb).1, w0⟩
    rintro n s5 ⟨i, σc, Hc, I5, st5, fr5, w5⟩ E'
    rcases turn i n σc Hc w5 with ⟨stop, qn⟩ | ⟨go, N, hN, step⟩
    · refine wpAny_mono (T.done Y rfl rfl rfl hc i [] s5 σc Hc E' I5 (stat fr5) st5 stop) (fun r s6 ⟨hr, I6⟩ => ?_) fun _ _ z => z
      subst hr
      obtain ⟨m, hn, _⟩ := id I6.loc
      exact hZ D C Hc s6 m hn (back I6) (I3.fpOk (by show h₀.objs.size ≤ C; rw [hC]; exact Nat.le_refl _) I6.free) qn
    · refine wpAny_mono (T.item Y rfl rfl rfl hc i [] s5 σc Hc E' I5 (stat fr5) st5 go) (fun r s6 ⟨u, hr, h6⟩ => ?_) fun _ _ z => z
      subst hr
      refine wpAny_mono h6 (fun _ s7 ⟨x, H7, I7, r7, y7, st7, fr7⟩ => ?_) fun _ _ z => z
      have I7' := I7.pinned (stat fr7) (T.obj _ _ st7)
      refine wpAny_mono (hg C _ _ fp _ s7 σc H7 x u _ I7' r7 (step x H7 y7)) (fun _ s8 ⟨σ8, H8, I8, q8⟩ => ?_) fun _ _ z => False.elim z
      have again : ∀ {σ9 : L2.St} {H9 : Hp} {s9 : Shared}, Inv Y ([] ++ pinsAt fp s7.heap) σ9 H9 s9 → N σ9 H9 → ∃ m, m < n ∧ ∃ i σ' H', Inv Y [] σ' H' s9 ∧ tn i s9.heap ∧ (∀ b ∈ fp, H' b = none) ∧ W i m σ' H' := fun {σ9 H9 s9} I9 n9 => by
        obtain ⟨m', hm, w9⟩ := hN σ9 H9 n9
        refine ⟨m', hm, i + 1, σ9, H9, I9.unpinned, T.keep _ _ _ st7 fun b hb o e => (I9.pin (b, o) (List.mem_append_right _ (List.mem_append_right _ (mem_pinsAt hb e)))).1, fun b hb => ?_, w9⟩
        obtain ⟨o, e, d⟩ := T.obj _ _ st7 b hb
        exact (I9.pin (b, o) (List.mem_append_right _ (List.mem_append_right _ (mem_pinsAt hb e)))).2.1
      refine wpAny_mono (ht C _ _ fp _ s8 σ8 H8 _ I8 q8) (fun ok s9 ⟨H9, I9, q9⟩ => ?_) fun _ _ z => False.elim z
      cases ok with
      | false =>
        rw [if_neg Bool.false_ne_true] at q9 ⊢
        exact again I9 q9
      | true =>
        rw [if_pos rfl] at q9 ⊢
        refine wpAny_mono (he C _ _ fp _ s9 σ8 H9 _ I9 q9) (fun v sa ⟨y, Ha, Ia, ra, ys, hy, hl, na⟩ => ?_) fun _ _ z => False.elim z
        have app := mt_append (X := Y) _ sa σ8 Ha (.ref D) [y] (.ref D) [v] (fun _ Hb => N σ8 Hb) Ia rfl (.cons ra .nil) ⟨D, ys, y, rfl, rfl, hy, hl, na⟩
        exact wpAny_mono app (fun _ sb ⟨_, Hb, Ib, _, nb⟩ => again Ib nb) fun _ _ z => False.elim z
  exact codeAny_compStart_list (loop _ rfl) (T.self _ 0 _ _ _ (T.keep _ _ _ st2 fun b hb o e => old b o (hpush b o e)) (loop _ rfl))
theorem pe_lc (hc : X.calm = true) (L : LcOk X scope cl cap NC) (hi : PI X target iter wi) (hg : ∀ C s₀ H₀ fp, PG (lcCx X scope cl NC C s₀ H₀ fp) target g) (ht : ∀ C s₀ H₀ fp, PTs (lcCx X scope cl NC C s₀ H₀ fp) ifs tt) (he : ∀ C s₀ H₀ fp, PE (lcCx X scope cl NC C s₀ H₀ fp) elt te)
    (hs : ∀ x, foldedSetIterable iter X.env x = pure x := by intro _; rfl) : PE X (.ListComp elt [⟨target, iter, ifs, 0⟩] scope pos) (tLC wi cap g tt te) := by
  intro pins s σ H Q I h
  rw [eval_ListComp]
  refine wpAny_comprehension_free (use := none) rfl hs L.clos L.kind L.names (thn (hi pins s σ H _ I h) fun xv s₁ h₁ => thn h₁ fun itv s₂ h₂ => ?_)
  obtain ⟨it, fp, tn, J, H2, rfl, I2, T, st2, f2, hq⟩ := h₂
  refine lc_block (G := Q) hc L hg ht he I2 T st2 f2 hq fun D C Hc s' m hn back _ q => ?_
  exact ⟨m, hn, fun h' sb => ⟨.ref D, Hc, back h' sb _, rfl, q⟩⟩
end
end Lx
namespace Lx
open PySem PySem.Spec PyProof.Rows L2
mutual
inductive DV (K : PySem.W.Frag) (H : Hp) : V → PyData → Prop
  | non : DV K H .non .none
  | bl (b : Bool) : DV K H (.bl b) (.bool b)
  | int (i : Int) : DV K H (.int i) (.int i)
  | str (x : Str) : DV K H (.str x) (.str x)
  | tup {a : Addr} {xs : List V} {ds : List PyData} : SqT K H a xs → DVs K H xs ds → DV K H (.ref a) (.tuple ds)
  | lst {a : Addr} {xs : List V} {ds : List PyData} : SqL K H a xs → DVs K H xs ds → DV K H (.ref a) (.list ds)
    | dct {a : Addr} {x y : Str} : H a = some (.dK [(.inr x, .str y)]) → DV K H (.ref a) (.dict [(.str x, .str y)])
inductive DVs (K : PySem.W.Frag) (H : Hp) : List V → List PyData → Prop
  | nil : DVs K H [] []
  | cons {x : V} {xs : List V} {d : PyData} {ds : List PyData} : DV K H x d → DVs K H xs ds → DVs K H (x :: xs) (d :: ds)
end
section
variable {X : Cx} {pins : List (Addr × Obj)} {σ : L2.St} {H : Hp} {s : Shared}
mutual
theorem dv_reads (I : Inv X pins σ H s) : ∀ {x : V} {d : PyData} {u : Value}, DV X.K H x d → RelV x u → ∃ as, Reads s.heap u d as
  | _, _, u, .non, r => by
    cases (show u = Value.none from r)
    exact ⟨_, .none⟩
  | _, _, u, .bl b, r => by
    cases (show u = Value.bool b from r)
    exact ⟨_, .bool b⟩
  | _, _, u, .int i, r => by
    obtain ⟨t, rfl⟩ := r
    exact ⟨_, .int i t⟩
  | _, _, u, .str x, r => by
    obtain ⟨t, rfl⟩ := r
    exact ⟨_, .str x t⟩
  | _, _, u, @DV.tup _ _ a xs ds h hs, r => by
    cases (show u = Value.ref a from r)
    obtain ⟨its, rv, ⟨o, ho, hc, n, hd⟩, _⟩ := I.tuple h
    obtain ⟨as, q⟩ := dvs_reads I hs rv
    exact ⟨_, .tuple ho hc hd (by simpa using q)⟩
  | _, _, u, @DV.lst _ _ a xs ds h hs, r => by
    cases (show u = Value.ref a from r)
    obtain ⟨its, rv, ⟨o, n, ho, hc, _, hd⟩, _⟩ := I.list h
    obtain ⟨as, q⟩ := dvs_reads I hs rv
    exact ⟨_, .list ho hc hd (by simpa using q)⟩
  | _, _, u, @DV.dct _ _ a x y h, r => by
    cases (show u = Value.ref a from r)
    obtain ⟨_, _, vs, rel, o, es, ep, ho, hc, hd, hk, hp, _⟩ := (show ObjOk X.prog X.w H s.heap a (.dK [(.inr x, .str y)]) from I.hok a _ h)
    unfold KV at rel
    cases rel with
    | @cons p q ps qs h1 t =>
      cases t
      obtain ⟨k, v⟩ := q
      obtain ⟨e1, t1, e2⟩ := h1
      have e1' : Sum.inr x = k := e1
      subst e1'
      have e2' : v = Value.str y t1 := e2
      subst e2'
      generalize hes : es.toList = l at hp
      cases hp with
      | @cons e kv es' kvs' hk1 hv1 ht1 =>
        cases ht1
        have hk2 : keyIs (.inr x) e.key = true := hk1
        have ek : ∃ t2, e.key = Value.str x t2 := by
          rcases keyIs_shape hk2 with ⟨i, t2, z, _⟩ | ⟨x2, t2, z, z2⟩
          · exact nomatch z
          · cases z; exact ⟨t2, z2⟩
        obtain ⟨t2, ek⟩ := ek
        have ev : e.val = Value.str y t1 := hv1
        exact ⟨_, .dict (as := [] ++ []) (bs := [] ++ []) ho hc.1 hd (by rw [hes]; show ReadsAll _ [e.key] [PyData.str x] _; rw [ek]; exact .cons (.str x t2) .nil) (by rw [hes]; show ReadsAll _ [e.val] [PyData.str y] _; rw [ev]; exact .cons (.str y t1) .nil)⟩
theorem dvs_reads (I : Inv X pins σ H s) : ∀ {xs : List V} {ds : List PyData} {us : List Value}, DVs X.K H xs ds → Vals xs us → ∃ as, ReadsAll s.heap us ds as
  | _, _, _, .nil, .nil => ⟨_, .nil⟩
  | _, _, _, .cons h hs, .cons r rs => by
    obtain ⟨as, q⟩ := dv_reads I h r
    obtain ⟨bs, qs⟩ := dvs_reads I hs rs
    exact ⟨_, .cons q qs⟩
end
end
structure Enc (α : Type) where
  d : α → PyData
  dep : Nat
  small : dep ≤ 60
  lay : ∀ x, (d x).canLay0 = true
  depth : ∀ x, (d x).depth ≤ dep
  eqv : ∀ x y, PyData.eqv (d x) (d y) = true ↔ x = y
theorem Enc.shaped {α : Type} (e : Enc α) (x : α) : SeqAt.shaped (e.d x) = true := by
  unfold SeqAt.shaped
  rw [e.lay, Bool.true_and]
  exact decide_eq_true (Nat.le_trans (e.depth x) (Nat.le_trans e.small (by decide)))
noncomputable def eInt : Enc Int := ⟨.int, 0, by decide, fun _ => rfl, fun _ => by simp [PyData.depth], fun x y => by simp [PyData.eqv]⟩
noncomputable def eBool : Enc Bool := ⟨.bool, 0, by decide, fun _ => rfl, fun _ => by simp [PyData.depth], fun x y => by simp [PyData.eqv]⟩
theorem enc_all {α : Type} (e : Enc α) : ∀ (xs : List α), PyData.canLayAll0 (xs.map e.d) = true ∧ PyData.depthAll (xs.map e.d) ≤ e.dep
  | [] => ⟨rfl, by simp [PyData.depthAll]⟩
  | x :: xs => by
    obtain ⟨h1, h2⟩ := enc_all e xs
    have h3 := e.lay x
    have h4 := e.depth x
    constructor
    · show ((e.d x).canLay0 && PyData.canLayAll0 (xs.map e.d)) = true
      rw [h3, h1]; rfl
    · show PyData.depthAll (e.d x :: xs.map e.d) ≤ e.dep
      simp only [PyData.depthAll]
      omega
theorem enc_eqvAll {α : Type} (e : Enc α) : ∀ (xs ys : List α), PyData.eqvAll (xs.map e.d) (ys.map e.d) = true ↔ xs = ys
  | [], [] => by simp [PyData.eqvAll]
  | [], y :: ys => by simp [PyData.eqvAll]
  | x :: xs, [] => by simp [PyData.eqvAll]
  | x :: xs, y :: ys => by
    have h := enc_eqvAll e xs ys
    have h2 := e.eqv x y
    simp only [List.map_cons, PyData.eqvAll, Bool.and_eq_true, h, h2, List.cons.injEq]
noncomputable def eList {α : Type} (e : Enc α) (h : e.dep ≤ 50) : Enc (List α) where
  d := fun xs => .list (xs.map e.d)
  dep := e.dep + 1
  small := by omega
  lay := fun xs => by show PyData.canLayAll0 _ = true; exact (enc_all e xs).1
  depth := fun xs => by
    have := (enc_all e xs).2
    simp only [PyData.depth]
    omega
  eqv := fun xs ys => by
    show PyData.eqvAll _ _ = true ↔ _
    exact enc_eqvAll e xs ys
noncomputable def rEqD (K : PySem.W.Frag) (neg : Bool) : R2 := fun x y H Q => ∃ (α : Type) (e : Enc α) (a b : α), DV K H x (e.d a) ∧ DV K H y (e.d b) ∧ ∀ k : Bool, (k = true ↔ a = b) → Q (.bl (if neg then !k else k)) H
noncomputable def rInD (K : PySem.W.Frag) (neg : Bool) : R2 := fun x y H Q => ∃ (α : Type) (e : Enc α) (a : α) (bs : List α), DV K H x (e.d a) ∧ DV K H y (.list (bs.map e.d)) ∧ ∀ k : Bool, (k = true ↔ a ∈ bs) → Q (.bl (if neg then !k else k)) H
section
variable {X : Cx}
theorem op_eqD (hu : X.A.units + 64 < cLine) : OpR X (compareOp .Eq) (rEqD X.K false) := by
  intro pins s σ H x y v u Q I rx ry h
  obtain ⟨α, e, a, b, da, db, q⟩ := h
  obtain ⟨as, r1⟩ := dv_reads I da rx
  obtain ⟨bs, r2⟩ := dv_reads I db ry
  exact eq_dataH r1 r2 (e.shaped a) (e.shaped b) hu ⟨.bl _, H, I, rfl, q _ (e.eqv a b)⟩
theorem op_neD (hu : X.A.units + 64 < cLine) : OpR X (compareOp .NotEq) (rEqD X.K true) := by
  intro pins s σ H x y v u Q I rx ry h
  obtain ⟨α, e, a, b, da, db, q⟩ := h
  obtain ⟨as, r1⟩ := dv_reads I da rx
  obtain ⟨bs, r2⟩ := dv_reads I db ry
  exact ne_dataH r1 r2 (e.shaped a) (e.shaped b) hu ⟨.bl _, H, I, rfl, q _ (e.eqv a b)⟩
theorem any_enc {α : Type} (e : Enc α) (a : α) : ∀ bs : List α, ((bs.map e.d).any fun y => PyData.eqv y (e.d a)) = true ↔ a ∈ bs
  | [] => by simp
  | b :: bs => by
    have h := any_enc e a bs
    have h2 := e.eqv b a
    simp only [List.map_cons, List.any_cons, Bool.or_eq_true, h, h2, List.mem_cons]
    constructor
    · rintro (z | z)
      · exact .inl z.symm
      · exact .inr z
    · rintro (z | z)
      · exact .inl z.symm
      · exact .inr z
theorem op_inD (hu : X.A.units + 64 < cLine) : OpR X (compareOp .In) (rInD X.K false) := by
  intro pins s σ H x y v u Q I rx ry h
  obtain ⟨α, e, a, bs, da, db, q⟩ := h
  obtain ⟨as, r1⟩ := dv_reads I da rx
  obtain ⟨cs, r2⟩ := dv_reads I db ry
  have h1 := e.depth a
  have h2 := e.small
  exact PySem.SeqAt.in_list_reads r2 r1 (enc_all e bs).1 (e.lay a) (by omega) ⟨.bl _, H, I, rfl, q _ (any_enc e a bs)⟩
end
end Lx
namespace Lx
open PySem PySem.Spec PyProof.Rows L2
structure ExcK (K : PySem.W.Frag) (C : Addr) : Prop where
  fg : PySem.W.findIn K (.ref C) "__getattribute__" = some (some (.builtin "BaseException.__getattribute__"))
  fa : PySem.W.findIn K (.ref C) "__getattr__" = some none
  fc : PySem.W.findIn K (.ref C) "__class__" = some (some (.builtin "object.__class__"))
  so : PySem.W.subIn K (.ref C) (.type "object") = some true
  sb : PySem.W.subIn K (.ref C) (.type "BaseException") = some true
section
variable {prog : Program} {w : World} {A : Around} {E : Value → Shared → Prop} {h : Heap} {g : Array GenState} {d : Drawn} {t : Nat} {os : OsState} {a C : Addr} {o : Obj} {K : PySem.W.Frag}
theorem xc_get {R : Result → Shared → Prop} (KX : K.In h) (k : ExcK K C) (hx : h.get? a = some o) (hc : o.cls = .ref C) (hq : R (.ok (.ret (.ref C))) ⟨h, g, d, t, os⟩) :
    codeAny (model prog w) A (.call (.builtin "getset_descriptor.__get__") ⟨[.builtin "object.__class__", .ref a, .ref C], []⟩) R ⟨h, g, d, t, os⟩ := by
  have hT5 : (⟨h, g, d, t, os⟩ : Shared).TypeIs (.builtin "object.__class__") "getset_descriptor" := F.typeOf_object_class
  have L1 : PySem.W.Looks (model prog w) h (isSubtype (.ref C) (.type (".".intercalate ("object.__class__".cutAt '.').dropLast))) true := by rw [F.owner_object_class]; exact PySem.W.looks_subIn KX k.so
  refine codeAny_call_builtin F.slot_gs_get.plain F.entry_gs_get (F.slot_gs_get.check _ _ _ _ _ _ _ _ hT5 (F.args_gs_get _ _ _) ?_)
  repeat (any_goals (first | assumption | (with_reducible refine wpAny_loadPart_at hx ?_; rw [hc]) | (with_reducible refine L1.at ?_) | wp_step))
  refine ⟨Code.quiet_builtin _ (by decide +kernel), codeAny_builtin F.entry_object_class ?_⟩
  repeat (any_goals (first | assumption | (with_reducible refine wpAny_loadPart_at hx ?_; rw [hc]) | wp_step))
theorem xc_entry {tk : Tok} {Q : Fin → Shared → Prop} (KX : K.In h) (k : ExcK K C) (hx : h.get? a = some o) (hc : o.cls = .ref C) (hq : Q (.done (.ret (.ref C))) ⟨h, g, d, t, os⟩) :
    wpAny (model prog w) A (Builtin.«object.__getattribute__» ⟨[.ref a, .str "__class__" tk], []⟩) Q E ⟨h, g, d, t, os⟩ := by
  have hT5 : (⟨h, g, d, t, os⟩ : Shared).TypeIs (.builtin "object.__class__") "getset_descriptor" := F.typeOf_object_class
  have f5 := F.typeOf_object_class
  have f6 := F.slot_gs_get.lookup
  have f7 := F.slot_gs_set.lookup
  have L1 : PySem.W.Looks (model prog w) h (typeLookup (.ref C) "__class__") _ := PySem.W.looks_findIn KX k.fc
  repeat (any_goals (first | assumption | (with_reducible refine wpAny_loadPart_at hx ?_; rw [hc]) | (with_reducible refine L1.at ?_) | wp_step))
  refine xc_get KX k hx hc ?_
  repeat (any_goals (first | assumption | wp_step))
theorem xc_check {M : Model} {nv : Value} {Q : Unit → Shared → Prop} (KX : K.In h) (k : ExcK K C) (hx : h.get? a = some o) (hc : o.cls = .ref C) (hq : Q () ⟨h, g, d, t, os⟩) : wpAny M A (checkBuiltinCall "BaseException.__getattribute__" ⟨[.ref a, nv], []⟩) Q E ⟨h, g, d, t, os⟩ := by
  have k1 : builtinKind "BaseException.__getattribute__" = some .slot := by decide +kernel
  have k2 : splitId "BaseException.__getattribute__" = some ("BaseException", "__getattribute__") := by decide +kernel
  have k3 := F.args_bexc_ga (.ref a) nv
  have L1 : PySem.W.Looks M h (isSubtype (.ref C) (.type "BaseException")) true := PySem.W.looks_subIn KX k.sb
  simp only [checkBuiltinCall, k1, k2]
  refine wpAny_bind ?_
  unfold isInstance
  repeat (first | (with_reducible refine wpAny_loadPart_at hx ?_; rw [hc]) | (with_reducible refine L1.at ?_) | wp_step)
  exact hq
theorem xc_call {tk : Tok} {R : Result → Shared → Prop} (KX : K.In h) (k : ExcK K C) (hx : h.get? a = some o) (hc : o.cls = .ref C) (hq : R (.ok (.ret (.ref C))) ⟨h, g, d, t, os⟩) :
    codeAny (model prog w) A (.call (.builtin "BaseException.__getattribute__") ⟨[.ref a, .str "__class__" tk], []⟩) R ⟨h, g, d, t, os⟩ :=
  codeAny_call_builtin PySem.F.attr_ValueError.ga.plain F.entry_bexc_ga (xc_check KX k hx hc (xc_entry KX k hx hc hq))
theorem xc_by {tk : Tok} {Q : Value → Shared → Prop} (KX : K.In h) (k : ExcK K C) (hx : h.get? a = some o) (hc : o.cls = .ref C) (hq : Q (.ref C) ⟨h, g, d, t, os⟩) :
    wpAny (model prog w) A (getAttrBy (.ref a) (.str "__class__" tk) false) Q E ⟨h, g, d, t, os⟩ := by
  have f3 := PySem.F.attr_ValueError.ga.bind (.ref a)
  have hx2 : (Value.builtin "BaseException.__getattribute__" == Value.builtin "object.__getattribute__") = false := by decide +kernel
  have hx1 : (onTheHeap (Value.ref C) && Value.builtin "BaseException.__getattribute__" == Value.builtin "object.__getattribute__") = false := by rw [hx2]; rfl
  have L1 : PySem.W.Looks (model prog w) h (typeLookup (.ref C) "__getattribute__") _ := PySem.W.looks_findIn KX k.fg
  have L2 : PySem.W.Looks (model prog w) h (typeLookup (.ref C) "__getattr__") _ := PySem.W.looks_findIn KX k.fa
  repeat (any_goals (first | assumption | (with_reducible refine wpAny_loadPart_at hx ?_; rw [hc]) | (with_reducible refine L1.at ?_) | (with_reducible refine L2.at ?_) | wp_step))
  refine xc_call KX k hx hc ?_
  repeat (any_goals (first | assumption | wp_step))
theorem xc_attr {Q : Option Value → Shared → Prop} (KX : K.In h) (k : ExcK K C) (hx : h.get? a = some o) (hc : o.cls = .ref C) (hq : Q (some (.ref C)) ⟨h, g, d, t + 1, os⟩) :
    wpAny (model prog w) A (getAttr? (.ref a) "__class__") Q E ⟨h, g, d, t, os⟩ := by
  unfold getAttr? getAttrBy?
  repeat (any_goals (first | assumption | with_reducible apply xc_by KX k hx hc | wp_step))
end
noncomputable def IsExc (x C : Addr) (h : Heap) : Prop := ∃ o vs, h.get? x = some o ∧ o.cls = .ref C ∧ o.data = .fields vs
theorem exc_look {K : PySem.W.Frag} {C : Addr} {bmB : List Value} {newId : String} (q : PySem.W.excIn K C bmB newId = true) : ∃ dd cd sl, K.lookup C = some ⟨.type "type", dd, .cls cd, sl⟩ := by
  unfold PySem.W.excIn at q
  split at q
  · rename_i dct cdat slts hlook
    exact ⟨dct, cdat, slts, hlook⟩
  · cases q
theorem kitx_exc {K : PySem.W.Frag} {x C : Addr} {bmB : List Value} {newId : String} (q : PySem.W.excIn K C bmB newId = true) (k : ExcK K C) : PySem.W.KitX K (.ref x) (.ref C) (IsExc x C) where
  ty := fun M h _ ⟨o, vs, h1, h2, _⟩ => h2 ▸ (PySem.W.Looks.ld h1).andThen .now
  it := fun _ _ KX _ => by
    obtain ⟨dd, cd, sl, ho⟩ := exc_look q
    intro A' Q' E' s' kk qq
    unfold isType loadHead
    exact wpAny_bind (wpAny_loadPart (kk _ _ (KX _ _ ho)) (wpAny_pure qq))
  ne := fun h tp dd its n sl KX htp => by
    obtain ⟨dd', cd, sl', ho⟩ := exc_look q
    refine Bool.eq_false_iff.mpr fun z => ?_
    have e : C = tp := Value.ref.inj (beq_iff_eq.mp z)
    subst e
    have z2 := congrArg (fun o : Option Obj => o.map (·.data)) ((KX _ _ ho).symm.trans htp)
    cases z2
  ca := fun {prog w A E Q s} KX ⟨o, vs, h1, h2, _⟩ kk => by
    obtain ⟨hh, g, d, t, os⟩ := s
    exact xc_attr KX k h1 h2 kk
section
variable {X : Cx}
theorem call_isiX : CallR X (.builtin "isinstance") (fun xs H Q => ∃ x C c cv b bmB newId, xs = [.ref x, c] ∧ (∀ u, RelV c u → u = cv) ∧ H x = some (.ext (IsExc x C)) ∧ PySem.W.excIn X.K C bmB newId = true ∧ ExcK X.K C ∧ PySem.W.kitOne X.K (.ref C) cv = some b ∧ Q (.bl b) H) := by
  intro pins s σ H xs us Q I r h
  obtain ⟨x, C, c, cv, b, bmB, newId, rfl, hc, hx, hq, hk, hb, q⟩ := h
  obtain ⟨u, v, rfl, ru, rv⟩ := vals2 r
  rw [hc v rv]
  cases (show u = Value.ref x from ru)
  obtain ⟨p, _, _⟩ := (show ObjOk X.prog X.w H s.heap x (.ext (IsExc x C)) from I.hok x _ hx)
  exact PySem.W.kia_one (kitx_exc hq hk) I.kIn p hb (fun z => nomatch z) fun tk => ⟨.bl b, H, I.tok tk, rfl, q⟩
variable {pins : List (Addr × Obj)} {σ : L2.St} {H : Hp} {s : Shared} {x C : Addr}
theorem inv_track {h₁ : Heap} (I : Inv X pins σ H s) (O : Old X pins h₁) (hx : ExcAt h₁ s.heap H x (.ref C)) (nex : x ∉ X.ex) : Inv X pins σ (upd H x (.ext (IsExc x C))) s := by
  obtain ⟨oe, vs, he, hc, hd, hHx, h0x, _⟩ := hx
  have ne : ∀ b, (∃ u, h₁.get? b = some u) → b ≠ x := fun b ⟨u, e⟩ z => by rw [z, h0x] at e; cases e
  have neH : ∀ b o, H b = some o → b ≠ x := fun b o e z => by rw [z, hHx] at e; cases e
  refine ⟨I.ok, I.os, I.bare, ⟨I.base.keep, I.base.slot, fun b o e n hb => ?_, I.base.there, fun b xs e => ?_, fun b o u e => ?_, fun b ps e => ?_⟩, I.loc, I.cell, ?_, fun y c e => ?_, fun p hp => ?_, fun b o e => ?_, I.len⟩
  · rw [upd_ne (ne b (O.s0 b o e hb))]
    exact I.base.free b o e n hb
  · have q := I.base.tups b xs e
    rw [upd_ne (neH b _ q)]; exact q
  · have q := I.base.frzs b o u e
    rw [upd_ne (neH b _ q)]; exact q
  · obtain ⟨m, q⟩ := I.base.tbls b ps e
    exact ⟨m, by rw [upd_ne (neH b _ q)]; exact q⟩
  · rw [upd_ne (ne _ O.lo)]; exact I.free
  · rw [upd_ne (ne c (O.ce y c e))]; exact I.freeC y c e
  · obtain ⟨e, n, r⟩ := I.pin p hp
    exact ⟨e, by rw [upd_ne (ne p.1 (O.pn p hp))]; exact n, r⟩
  · by_cases hb : b = x
    · subst hb
      rw [upd_same] at e; cases e
      refine ⟨⟨oe, vs, he, hc, hd⟩, ⟨oe, he⟩, fun h1 h2 p kk => ?_⟩
      obtain ⟨o, vs', q1, q2, q3⟩ := p
      exact ⟨o, vs', kk o q1, q2, q3⟩
    · rw [upd_ne hb] at e
      exact (I.hok b o e).stay (fun c v _ q => q) (fun c q => by rw [upd_ne (neH c _ q)]; exact q) fun c xs q => by rw [upd_ne (neH c _ q)]; exact q
theorem inv_gone {i : Nat} {n : Str} {h' : Heap} {t' : Nat} {v : Option Value} {m : Str → Option Value} (I : Inv X pins σ H s) (hN : X.N.Nodup) (hi : X.N[i]? = some n) (hl : X.env.scope.names.lookup n = some .local) (hm : s.heap.Ns X.env.locals m) (hm2 : ∀ (j : Nat) (y : Str) (w : V), X.N[j]? = some y → σ[j]? = some (some w) → Vis X.env.scope y → ∃ u, RelV w u ∧ Look X.env s.heap m y u)
    (hn : h'.Ns X.env.locals (fun y => if y = n then v else m y)) (sb : Heap.SameBut X.env.locals s.heap h') : Inv X pins (σ.set i none) H { s with heap := h', toks := t' } := by
  have neL : ∀ b o, X.s₀.heap.get? b = some o → b ≠ X.env.locals := fun b o e => Nat.ne_of_lt (Nat.lt_of_lt_of_le (Heap.lt_size e) I.ok.above)
  have cellK : ∀ x c, X.env.cells.lookup x = some c → ∀ v, s.heap.IsCell c v → h'.IsCell c v := fun x c e v z => z.sameBut sb (I.cne x c e)
  refine ⟨I.ok, I.os, I.bare, ⟨fun b o e n hb hx => (sb.2 b (neL b o e)).trans (I.base.keep b o e n hb hx), fun b o e n hb hx => ?_, I.base.free, fun b o e hx => ?_, I.base.tups, I.base.frzs, I.base.tbls⟩, ⟨_, hn, fun j y w e1 e2 e3 => ?_⟩, fun y c e => ?_, I.free, I.freeC, fun p hp => ?_, fun b o e => ?_, by rw [List.length_set]; exact I.len⟩
  · obtain ⟨sl, q⟩ := I.base.slot b o e n hb hx
    exact ⟨sl, (sb.2 b (neL b o e)).trans q⟩
  · obtain ⟨o', q⟩ := I.base.there b o e hx
    exact ⟨o', (sb.2 b (neL b o e)).trans q⟩
  · by_cases hj : j = i
    · subst hj
      by_cases hlt : j < σ.length
      · rw [List.getElem?_set_self hlt] at e2; cases e2
      · rw [List.getElem?_eq_none (by rw [List.length_set]; omega)] at e2; cases e2
    · rw [List.getElem?_set_ne (Ne.symm hj)] at e2
      obtain ⟨u, r, l⟩ := hm2 j y w e1 e2 e3
      refine ⟨u, r, ?_⟩
      rcases l with ⟨k, e⟩ | ⟨k, c, e, z⟩
      · refine .inl ⟨k, ?_⟩
        have ny : y ≠ n := fun z => hj (nodup_ix hN e1 (z ▸ hi))
        show (if y = n then v else m y) = _
        rw [if_neg ny]; exact e
      · exact .inr ⟨k, c, e, cellK y c e _ z⟩
  · obtain ⟨v', z⟩ := I.cell y c e
    exact ⟨v', cellK y c e v' z⟩
  · obtain ⟨e, n, ne, nf, d⟩ := I.pin p hp
    exact ⟨(sb.2 p.1 ne).trans e, n, ne, nf, d⟩
  · refine (I.hok b o e).stay (fun c v hc q => (sb.2 c ?_).trans q) (fun _ q => q) fun _ _ q => q
    rintro rfl
    rcases hc with z | z
    · rw [← z, I.free] at e; cases e
    · rw [I.free] at z; cases z
noncomputable def tTryAs (K : PySem.W.Frag) (cv : Value) (tb : TSX) (i : Nat) (ts : TS) : TS := fun D σ H => tb D (fun σ' C _ H' => PySem.W.exmOne K C cv = some true ∧ ∃ c : Addr, C = .ref c ∧ ∀ x, H' x = none →
  ts { nx := fun σ2 H2 => D.nx (σ2.set i none) H2, rt := D.rt, bk := fun σ2 H2 => D.bk (σ2.set i none) H2, ct := fun σ2 H2 => D.ct (σ2.set i none) H2 } (σ'.set i (some (.ref x))) (upd H' x (.ext (IsExc x c)))) σ H
theorem ps_tryAs {body suite : List Stmt} {b₀ : Stmt} {y n : Str} {i : Nat} {cv : Value} {np hpos pos : Pos} {tb : TSX} {ts : TS} (hst : X.stack = X.env :: X.outer) (hf : X.env.frame = some X.env.locals) (hN : X.N.Nodup) (hi : X.N[i]? = some n) (hl : X.env.scope.names.lookup n = some .local) (hex : X.ex = []) (hb : PSsX X body tb)
    (c : Clause X y cv) (hs : ∀ x, PSs (caught X x) (b₀ :: suite) ts) (hd : (y == ("__debug__" : Str)) = false := by decide) :
    PS X (.Try body [.ExceptHandler (some (.Name y np)) (some n) (b₀ :: suite) hpos] [] [] pos) (tTryAs X.K cv tb i ts) := by
  intro pins s σ H D I h
  refine wpAny_Try_except (wpAny_mono (hb pins s σ H D _ I h) (fun f s1 q => ?_) fun e s1 q => ?_)
  · cases f with
    | next => exact wpAny_execs_nil q
    | ret v => exact q
    | brk => exact q
    | cont => exact q
  · obtain ⟨x, C, σ', H', h₁, rfl, I', hx, h1s, o1, o2, o3, o4, hm, cc, rfl, q⟩ := q
    have O : Old X pins h₁ := ⟨o1, o2, o3, o4⟩
    have hkp : (X.env.scope.kind == .class || (X.env.scope.kind == .module && X.env.locals != X.env.globals)) = false := by rw [I.ok.kind]; rfl
    refine noted_any (h₀ := h₁) (H := H') (C := .ref cc) (base := X.base) (env := X.env) (outer := X.outer) (by rw [← hst]; exact I'.ok.frames) (by rw [← hst]; exact I'.stack) hf hx h1s (fun b o e => obj_get (I'.hok b o e)) fun h' kp sl hx' => ?_
    rw [← hst] at kp sl
    have I2 : Inv X pins σ' H' { s1 with heap := h' } := inv_over (t' := s1.toks) hst hf I' O kp sl
    have I3 : Inv (caught X x) pins σ' H' { s1 with heap := h' } := inv_caught I2
    refine wpAny_handleBy_cons (codeAny_handlers_test ?_) (by intro q; cases q)
    refine clause_ld (X := caught X x) c I3 hd ?_
    obtain ⟨oe, vs, he, hc, _⟩ := id hx'
    have LT : PySem.W.Looks (model X.prog X.w) h' (typeOf (.ref x)) (.ref cc) := by rw [← hc]; exact (PySem.W.Looks.ld he).andThen .now
    refine (PySem.W.exm_one (K := X.K) I3.kIn LT hm).here ?_
    refine codeAny_handlers_suite_as (flight_any (s := { s1 with heap := h' }) hx' fun h2 kp2 kn2 th2 hx2 => ?_)
    have I4 : Inv X pins σ' H' { s1 with heap := h2 } := inv_over (s := { s1 with heap := h' }) (t' := s1.toks) hst hf I2 O (fun b o e hb _ => kp2 b o e hb) fun b o e hb => by
      obtain ⟨_, u, hu, nf⟩ := I2.stack.mem hb
      have hu' : h'.get? b = some u := hu
      have e' : h'.get? b = some o := e
      rw [e'] at hu'; cases hu'
      exact ⟨o.slots, kn2 b o e nf⟩
    have I5 := inv_track I4 O hx2 (by rw [hex]; simp)
    obtain ⟨_, _, _, _, _, hHx, _, _⟩ := hx2
    refine store_ok (X := caught X x) (v := .ref x) (inv_caught I5) hN hi (.inl hl) rfl (fun s6 I6 => ?_) (.inr hl)
    have run := hs x pins s6 (σ'.set i (some (.ref x))) _ { nx := fun σ2 H2 => D.nx (σ2.set i none) H2, rt := D.rt, bk := fun σ2 H2 => D.bk (σ2.set i none) H2, ct := fun σ2 H2 => D.ct (σ2.set i none) H2 } I6 (q x hHx)
    refine wpAny_mono run (fun f s7 q7 => ?_) fun _ _ z => False.elim z
    have q8 := sp_uncaught I'.ok q7
    have go : ∀ {σ7 : L2.St} {H7 : Hp}, Inv X pins σ7 H7 s7 → ∀ {R : Shared → Prop} {E : Value → Shared → Prop}, (∀ s8, Inv X pins (σ7.set i none) H7 s8 → R s8) → wpAny (model X.prog X.w) X.A (do bindName X.env n .none; unbindBehindTheSuite X.env n hpos) (fun _ s8 => R s8) E s7 := fun {σ7 H7} I7 {R E} hR => by
      obtain ⟨m, hn7, hl7⟩ := id I7.loc
      exact wpAny_nameGoes_keeps hl hn7 hkp fun h8 v hn8 sb8 => hR _ (inv_gone I7 hN hi hl hn7 hl7 hn8 sb8)
    cases f with
    | next =>
      obtain ⟨σ7, H7, I7, q9⟩ := q8
      exact go I7 fun s8 I8 => ⟨_, H7, I8, q9⟩
    | ret v =>
      obtain ⟨v7, σ7, H7, I7, r7, q9⟩ := q8
      exact go I7 fun s8 I8 => ⟨v7, _, H7, I8, r7, q9⟩
    | brk =>
      obtain ⟨σ7, H7, I7, q9⟩ := q8
      exact go I7 fun s8 I8 => ⟨_, H7, I8, q9⟩
    | cont =>
      obtain ⟨σ7, H7, I7, q9⟩ := q8
      exact go I7 fun s8 I8 => ⟨_, H7, I8, q9⟩
end
end Lx
namespace Lx
open PySem PySem.Spec PyProof.Rows L2
section
variable {X : Cx} {K : PySem.W.Frag}
theorem ixlK (h : X.K = K) : IxR X (rIxL K) := by subst h; exact ix_list
theorem ixtK (h : X.K = K) : IxR X (rIxT K) := by subst h; exact ix_tup
theorem lenK (h : X.K = K) : CallR X (.builtin "len") (fun xs H Q => ∃ p ys, xs = [.ref p] ∧ (SqL K H p ys ∨ SqT K H p ys) ∧ Q (.int ys.length) H) := by subst h; exact call_len_seq
theorem listK (h : X.K = K) : CallR X (.type "list") (fun xs H Q => ∃ p ys, xs = [.ref p] ∧ (SqL K H p ys ∨ SqT K H p ys) ∧ ∀ l, H l = none → Q (.ref l) (upd H l (.lst ys))) := by subst h; exact call_list_of
theorem sllK (h : X.K = K) : SlR X (rSlL K) := by subst h; exact sl_list
theorem eqK (h : X.K = K) (hu : X.A.units + 64 < cLine) : OpR X (compareOp .Eq) (rEqD K false) := by subst h; exact op_eqD hu
theorem neK (h : X.K = K) (hu : X.A.units + 64 < cLine) : OpR X (compareOp .NotEq) (rEqD K true) := by subst h; exact op_neD hu
theorem inK (h : X.K = K) (hu : X.A.units + 64 < cLine) : OpR X (compareOp .In) (rInD K false) := by subst h; exact op_inD hu
theorem isiXK (h : X.K = K) : CallR X (.builtin "isinstance") (fun xs H Q => ∃ x C c cv b bmB newId, xs = [.ref x, c] ∧ (∀ u, RelV c u → u = cv) ∧ H x = some (.ext (IsExc x C)) ∧ PySem.W.excIn K C bmB newId = true ∧ ExcK K C ∧ PySem.W.kitOne K (.ref C) cv = some b ∧ Q (.bl b) H) := by subst h; exact call_isiX
theorem pilK {tg l : Expr} {tl : TE} (h : X.K = K) (hl : PE X l tl) : PI X tg l (iList K tl) := by subst h; exact pi_list hl
theorem pgtK {es : List Expr} {k : Nat} {pos : Pos} {t : TGs} {n : Nat} (h : X.K = K) (hc : X.calm = true) (hg : PGs X es t)
    (hn : (assignEach es X.env).length = n := by rfl) (hst : (assignEach es X.env).findIdx? (·.1) = none := by rfl) : PG X (.Tuple es k pos) (gTup K n t) := by subst h; exact pg_tup hc hg hn hst
end
end Lx
namespace Lx
open PySem PySem.Spec PyProof.Rows L2
section
variable {X : Cx} {elt target iter : Expr} {ifs : List Expr} {scope : Scope} {pos spos pos' : Pos} {wi : TI} {cap : List (Option Nat)} {NC : List Str} {cl : List (Str × Addr)} {g : TG} {tt : TT} {te : TE}
theorem ps_setLC {i : Nat} {x : Str} (hN : X.N.Nodup) (hi : X.N[i]? = some x) (hx : X.env.scope.names.lookup x = some .local) (hc : X.calm = true) (L : LcOk X scope cl cap NC) (hit : PI X target iter wi)
    (hg : ∀ C s₀ H₀ fp, PG (lcCx X scope cl NC C s₀ H₀ fp) target g) (ht : ∀ C s₀ H₀ fp, PTs (lcCx X scope cl NC C s₀ H₀ fp) ifs tt) (he : ∀ C s₀ H₀ fp, PE (lcCx X scope cl NC C s₀ H₀ fp) elt te)
    (hsw : swapsWith (.ListComp elt [⟨target, iter, ifs, 0⟩] scope pos) (some (.Name x pos')) spos.line X.env = pure true := by rfl)
    (hs : ∀ x, foldedSetIterable iter X.env x = pure x := by intro _; rfl) : PS X (.Assign [.Name x pos'] (.ListComp elt [⟨target, iter, ifs, 0⟩] scope pos) spos) (tAsg (tLC wi cap g tt te) (gName i)) := by
  intro pins s σ H D I h
  rw [exec_Assign_Name_used _ _ _ _ hsw]
  refine wpAny_bind (wpAny_standAt (wpAny_bind ?_))
  show wpAny _ X.A (do let _ ← comprehension (.ListComp elt [⟨target, iter, ifs, 0⟩] scope pos) scope X.env _ (newList []) false (eval iter X.env) (some (assign (.Name x pos') X.env))) _ _ s
  refine wpAny_bind (wpAny_mono (wpAny_comprehension_free (use := some (assign (.Name x pos') X.env)) (Q := fun _ s' => SP X pins D .next s') rfl hs L.clos L.kind L.names
    (thn (hit pins s σ H _ I h) fun xv s₁ h₁ => thn h₁ fun itv s₂ h₂ => ?_)) (fun _ s' hq => wpAny_pure (wpAny_pure hq)) fun _ _ e => e)
  obtain ⟨it, fp, tn, J, H2, rfl, I2, T, st2, f2, hq⟩ := h₂
  refine lc_block (G := fun v H' => D.nx (σ.set i (some v)) H') hc L hg ht he I2 T st2 f2 hq fun Dd C Hc s' m hn back fpC q => ?_
  obtain ⟨z1, z2, z3, z4, z5, z6⟩ := fpC
  have Ib : Inv X pins σ Hc s' := back s'.heap (.refl _ _) s'.toks
  show wpAny _ X.A (assign (.Name x pos') X.env (.ref Dd)) _ _ _
  refine wpAny_assign_Name (store_ok2 Ib hN hi (.inl hx) (show RelV (.ref Dd) (.ref Dd) from rfl) (fun s2 I2 ⟨a, sb, ha⟩ => ?_) (.inr hx))
  have hCa : C ≠ a := by
    rcases ha with z | z
    · rw [z]; exact z2
    · exact fun e => z5 x a z e.symm
  refine ⟨m, hn.sameBut sb hCa, fun h' sb' => ⟨_, Hc, ?_, q⟩⟩
  exact I2.turned (t' := s2.toks) (it := C) (fun b o hb e => (sb'.2 b hb).trans e) z1 z2 z4 z5 z6
end
section
variable {X : Cx} {K : PySem.W.Frag}
end
end Lx
namespace Fm
theorem abs_if (i : Int) : (if i < 0 then -i else i) = ((i.natAbs : Nat) : Int) := by omega
theorem gcd_step (a b : Int) (h : 0 < b) : Int.gcd b (a % b) = Int.gcd a b := by
  rw [Int.gcd_comm b (a % b), Int.emod_def]
  exact Int.gcd_sub_mul_left_left _ _ _
theorem gcd_zero {a : Int} (h : 0 ≤ a) : ((Int.gcd a 0 : Nat) : Int) = a := by
  rw [Int.gcd_zero_right]; omega
theorem gcd_le_right {a b : Int} (hb : b ≠ 0) : Int.gcd a b ≤ b.natAbs := Nat.le_of_dvd (by omega) (Int.gcd_dvd_natAbs_right a b)
theorem gcd_pos_right {a b : Int} (hb : b ≠ 0) : 0 < Int.gcd a b := Int.gcd_pos_of_ne_zero_right a hb
theorem fr_num {t b : Int} (hb : b ≠ 0) : t.fdiv (if b < 0 then -((Int.gcd t b : Nat) : Int) else ((Int.gcd t b : Nat) : Int)) = (Rat.divInt t b).num := by
  rw [Rat.num_divInt, Int.gcd_comm b t]
  have hg : (0 : Int) < ((Int.gcd t b : Nat) : Int) := by have := gcd_pos_right (a := t) hb; omega
  have hd : ((Int.gcd t b : Nat) : Int) ∣ t := Int.gcd_dvd_left t b
  split
  · rename_i hn
    rw [Int.sign_eq_neg_one_of_neg hn]
    obtain ⟨k, hk⟩ := hd
    generalize ((Int.gcd t b : Nat) : Int) = g at hg hk
    subst hk
    rw [show -1 * (g * k) = g * (-k) by grind, Int.mul_ediv_cancel_left _ (by omega)]
    rw [show g * k = (-g) * (-k) by grind]
    exact Int.mul_fdiv_cancel_left _ (by omega)
  · rename_i hn
    rw [Int.sign_eq_one_of_pos (by omega), Int.one_mul, Int.fdiv_eq_ediv_of_nonneg _ (by omega)]
theorem fr_den {t b : Int} (hb : b ≠ 0) : b.fdiv (if b < 0 then -((Int.gcd t b : Nat) : Int) else ((Int.gcd t b : Nat) : Int)) = (((Rat.divInt t b).den : Nat) : Int) := by
  rw [Rat.den_divInt, if_neg hb, Int.gcd_comm b t]
  have hg : (0 : Int) < ((Int.gcd t b : Nat) : Int) := by have := gcd_pos_right (a := t) hb; omega
  have hd : ((Int.gcd t b : Nat) : Int) ∣ b := Int.gcd_dvd_right t b
  rw [Int.natCast_ediv]
  split
  · rename_i hn
    rw [show ((b.natAbs : Nat) : Int) = -b by omega]
    obtain ⟨k, hk⟩ := hd
    generalize ((Int.gcd t b : Nat) : Int) = g at hg hk
    subst hk
    rw [show -(g * k) = g * (-k) by grind, Int.mul_ediv_cancel_left _ (by omega)]
    rw [show g * k = (-g) * (-k) by grind]
    exact Int.mul_fdiv_cancel_left _ (by omega)
  · rename_i hn
    rw [show ((b.natAbs : Nat) : Int) = b by omega, Int.fdiv_eq_ediv_of_nonneg _ (by omega)]
theorem lowest (q : Rat) : Int.gcd q.num (q.den : Int) = 1 := q.reduced
theorem den_pos (q : Rat) : (1 : Int) ≤ (q.den : Int) := by have := q.den_nz; omega
theorem cross (t b : Int) (hb : b ≠ 0) : (Rat.divInt t b).num * b = t * ((Rat.divInt t b).den : Int) := by
  have h := Rat.num_divInt_den (Rat.divInt t b)
  exact (Rat.divInt_eq_divInt_iff (by have := (Rat.divInt t b).den_nz; omega) hb).mp h
theorem num_le (t : Int) {b : Int} (hb : b ≠ 0) : (Rat.divInt t b).num.natAbs ≤ t.natAbs := by
  have h := cross t b hb
  have h2 := Fm.den_pos (Rat.divInt t b)
  rw [← fr_num hb]
  have hg : (0 : Int) < ((Int.gcd t b : Nat) : Int) := by have := gcd_pos_right (a := t) hb; omega
  obtain ⟨k, hk⟩ : ((Int.gcd t b : Nat) : Int) ∣ t := Int.gcd_dvd_left t b
  generalize ((Int.gcd t b : Nat) : Int) = g at hg hk
  subst hk
  have le : k.natAbs ≤ (g * k).natAbs := by
    rw [Int.natAbs_mul]
    exact Nat.le_mul_of_pos_left _ (by omega)
  split
  · rw [show g * k = (-g) * (-k) by grind, Int.mul_fdiv_cancel_left _ (by omega)]
    rw [show (-g) * (-k) = g * k by grind]
    omega
  · rw [Int.mul_fdiv_cancel_left _ (by omega)]
    exact le
theorem den_le (t : Int) {b : Int} (hb : b ≠ 0) : (Rat.divInt t b).den ≤ b.natAbs := by
  rw [Rat.den_divInt, if_neg hb]
  exact Nat.div_le_self _ _
theorem num_eq (q : Rat) : (q.num : Rat) = q * (q.den : Rat) := by
  have h := Rat.num_divInt_den q
  rw [Rat.divInt_eq_div] at h
  have hd : ((q.den : Int) : Rat) ≠ 0 := by
    have := q.den_nz
    intro z
    rw [Rat.intCast_natCast] at z
    exact this (by simpa using z)
  rw [Rat.intCast_natCast] at h hd
  have h2 := Rat.div_mul_cancel (a := (q.num : Rat)) hd
  rw [h] at h2
  exact h2.symm
theorem fr_pos {t b : Int} (hb : 0 < b) : t / ((Int.gcd t b : Nat) : Int) = (Rat.divInt t b).num ∧ b / ((Int.gcd t b : Nat) : Int) = ((Rat.divInt t b).den : Int) := by
  have h1 := fr_num (t := t) (b := b) (by omega)
  have h2 := fr_den (t := t) (b := b) (by omega)
  rw [if_neg (by omega), Int.fdiv_eq_ediv_of_nonneg _ (by omega)] at h1 h2
  exact ⟨h1, h2⟩
theorem eq_divInt {q : Rat} {n m : Int} (hm : m ≠ 0) (h : q * (m : Rat) = (n : Rat)) : q = Rat.divInt n m := by
  rw [Rat.divInt_eq_div, ← h]
  have : (m : Rat) ≠ 0 := by simpa using hm
  exact (Rat.mul_div_cancel this).symm
theorem size_of {q : Rat} {n m : Int} (hm : m ≠ 0) (h : q * (m : Rat) = (n : Rat)) : q.num.natAbs ≤ n.natAbs ∧ q.den ≤ m.natAbs := by
  rw [eq_divInt hm h]
  exact ⟨num_le n hm, den_le n hm⟩
structure Sz (N : Nat) (q : Rat) : Prop where
  n : q.num.natAbs ≤ N
  d : q.den ≤ N
theorem Sz.mono {M N : Nat} {q : Rat} (h : Sz M q) (l : M ≤ N) : Sz N q := ⟨Nat.le_trans h.n l, Nat.le_trans h.d l⟩
theorem Sz.neg {N : Nat} {q : Rat} (h : Sz N q) : Sz N (-q) := ⟨by show (-q.num).natAbs ≤ N; rw [Int.natAbs_neg]; exact h.n, h.d⟩
theorem sz_cross (a b : Rat) (f : Rat) (n : Int) (h : f * ((a.den : Int) * (b.den : Int) : Int) = (n : Rat)) {M N : Nat} (ha : Sz M a) (hb : Sz N b) (hn : n.natAbs ≤ 2 * (M * N)) : Sz (2 * (M * N)) f := by
  have m0 : (a.den : Int) * (b.den : Int) ≠ 0 := Int.mul_ne_zero (by have := a.den_nz; omega) (by have := b.den_nz; omega)
  obtain ⟨h1, h2⟩ := size_of m0 h
  refine ⟨Nat.le_trans h1 hn, Nat.le_trans h2 ?_⟩
  rw [Int.natAbs_mul]
  have := Nat.mul_le_mul ha.d hb.d
  simp only [Int.natAbs_natCast]
  omega
theorem Sz.add {a b : Rat} {M N : Nat} (ha : Sz M a) (hb : Sz N b) : Sz (2 * (M * N)) (a + b) := by
  refine sz_cross a b _ (a.num * (b.den : Int) + b.num * (a.den : Int)) ?_ ha hb ?_
  · rw [Rat.intCast_mul, Rat.intCast_add, Rat.intCast_mul, Rat.intCast_mul, Rat.intCast_natCast, Rat.intCast_natCast, num_eq a, num_eq b]
    grind
  · have h1 := Nat.mul_le_mul ha.n hb.d
    have h2 := Nat.mul_le_mul hb.n ha.d
    have h3 := Int.natAbs_add_le (a.num * (b.den : Int)) (b.num * (a.den : Int))
    rw [Int.natAbs_mul, Int.natAbs_mul, Int.natAbs_natCast, Int.natAbs_natCast] at h3
    rw [Nat.mul_comm N M] at h2
    omega
theorem Sz.sub {a b : Rat} {M N : Nat} (ha : Sz M a) (hb : Sz N b) : Sz (2 * (M * N)) (a - b) := by
  rw [Rat.sub_eq_add_neg]
  exact ha.add hb.neg
end Fm
namespace Fm
theorem den_dvd (t : Int) {b : Int} (hb : b ≠ 0) : (Rat.divInt t b).den ∣ b.natAbs := by
  have h := congrArg Int.natAbs (cross t b hb)
  rw [Int.natAbs_mul, Int.natAbs_mul] at h
  have h2 : (Rat.divInt t b).den ∣ (Rat.divInt t b).num.natAbs * b.natAbs := ⟨t.natAbs, by rw [h, Nat.mul_comm]; simp⟩
  have h3 : Nat.Coprime (Rat.divInt t b).den (Rat.divInt t b).num.natAbs := Nat.Coprime.symm (Rat.divInt t b).reduced
  exact h3.dvd_of_dvd_mul_left h2
theorem den_of {q : Rat} {n : Int} {L : Nat} (hL : L ≠ 0) (h : q * (L : Rat) = (n : Rat)) : q.den ∣ L := by
  have e : q = Rat.divInt n (L : Int) := eq_divInt (by omega) (by rw [Rat.intCast_natCast]; exact h)
  rw [e]
  have := den_dvd n (b := (L : Int)) (by omega)
  simpa using this
theorem top_of {q : Rat} {L : Nat} (h : q.den ∣ L) : q * (L : Rat) = ((q.num * ((L / q.den : Nat) : Int) : Int) : Rat) := by
  obtain ⟨c, rfl⟩ := h
  have hd : 0 < q.den := Nat.pos_of_ne_zero q.den_nz
  rw [Nat.mul_div_cancel_left _ hd, Rat.intCast_mul, num_eq q, Rat.natCast_mul, Rat.intCast_natCast]
  grind
structure Cm (L B : Nat) (q : Rat) : Prop where
  d : q.den ∣ L
  lo : -(B : Rat) ≤ q
  hi : q ≤ (B : Rat)
theorem cast_le {a b : Nat} (h : a ≤ b) : (a : Rat) ≤ (b : Rat) := by
  rw [← Rat.intCast_natCast, ← Rat.intCast_natCast]
  exact Rat.intCast_le_intCast.mpr (by omega)
theorem cast_nn (a : Nat) : (0 : Rat) ≤ (a : Rat) := cast_le (Nat.zero_le a)
theorem Cm.mono {L B L' B' : Nat} {q : Rat} (h : Cm L B q) (hl : L ∣ L') (hb : B ≤ B') : Cm L' B' q := by
  have := cast_le hb
  exact ⟨Nat.dvd_trans h.d hl, by have := h.lo; grind, by have := h.hi; grind⟩
theorem Cm.neg {L B : Nat} {q : Rat} (h : Cm L B q) : Cm L B (-q) := ⟨h.d, by have := h.hi; grind, by have := h.lo; grind⟩
theorem Cm.add {L B C : Nat} {p q : Rat} (hp : Cm L B p) (hq : Cm L C q) : Cm L (B + C) (p + q) := by
  refine ⟨?_, ?_, ?_⟩
  · by_cases hL : L = 0
    · rw [hL]; exact Nat.dvd_zero _
    · refine den_of hL (n := p.num * ((L / p.den : Nat) : Int) + q.num * ((L / q.den : Nat) : Int)) ?_
      rw [Rat.intCast_add, ← top_of hp.d, ← top_of hq.d]
      grind
  · rw [Rat.natCast_add]; have := hp.lo; have := hq.lo; grind
  · rw [Rat.natCast_add]; have := hp.hi; have := hq.hi; grind
theorem Cm.sub {L B C : Nat} {p q : Rat} (hp : Cm L B p) (hq : Cm L C q) : Cm L (B + C) (p - q) := by
  rw [Rat.sub_eq_add_neg]; exact hp.add hq.neg
theorem Cm.int {i : Int} {B : Nat} (h : i.natAbs ≤ B) : Cm 1 B (i : Rat) := by
  refine ⟨by simp, ?_, ?_⟩
  · rw [← Rat.intCast_natCast, ← Rat.intCast_neg]; exact Rat.intCast_le_intCast.mpr (by omega)
  · rw [← Rat.intCast_natCast]; exact Rat.intCast_le_intCast.mpr (by omega)
theorem Cm.num {L B : Nat} {q : Rat} (h : Cm L B q) : q.num.natAbs ≤ B * q.den := by
  have hd : (0 : Rat) ≤ (q.den : Rat) := cast_nn _
  have e := num_eq q
  have h1 : (q.num : Rat) ≤ ((B * q.den : Nat) : Rat) := by
    rw [e, Rat.natCast_mul]; exact Rat.mul_le_mul_of_nonneg_right h.hi hd
  have h2 : -((B * q.den : Nat) : Rat) ≤ (q.num : Rat) := by
    rw [e, Rat.natCast_mul, ← Rat.neg_mul]; exact Rat.mul_le_mul_of_nonneg_right h.lo hd
  rw [← Rat.intCast_natCast] at h1 h2
  rw [← Rat.intCast_neg] at h2
  have h3 := Rat.intCast_le_intCast.mp h1
  have h4 := Rat.intCast_le_intCast.mp h2
  omega
theorem Cm.den {L B : Nat} {q : Rat} (h : Cm L B q) (hL : 0 < L) : q.den ≤ L := Nat.le_of_dvd hL h.d
theorem Cm.sz {L B : Nat} {q : Rat} (h : Cm L B q) (hL : 0 < L) : Sz ((B + 1) * L) q := by
  have h1 := h.num
  have h2 := h.den hL
  have h3 : B * q.den ≤ B * L := Nat.mul_le_mul_left _ h2
  have h4 : (B + 1) * L = B * L + L := by rw [Nat.add_mul, Nat.one_mul]
  exact ⟨by omega, by omega⟩
theorem Cm.of {q : Rat} {L B : Nat} (hd : q.den ∣ L) (hn : q.num.natAbs ≤ B * q.den) : Cm L B q := by
  have hp : (0 : Rat) < (q.den : Rat) := by
    rw [← Rat.intCast_natCast]; exact Rat.intCast_pos.mpr (by have := q.den_nz; omega)
  have e := num_eq q
  have h1 : (q.num : Rat) ≤ (B : Rat) * (q.den : Rat) := by
    rw [← Rat.natCast_mul, ← Rat.intCast_natCast]; exact Rat.intCast_le_intCast.mpr (by omega)
  have h2 : -((B : Rat) * (q.den : Rat)) ≤ (q.num : Rat) := by
    rw [← Rat.natCast_mul, ← Rat.intCast_natCast, ← Rat.intCast_neg]; exact Rat.intCast_le_intCast.mpr (by omega)
  rw [e] at h1 h2
  refine ⟨hd, ?_, ?_⟩
  · refine Rat.not_lt.mp fun c => ?_
    have := Rat.mul_lt_mul_of_pos_right c hp
    rw [Rat.neg_mul] at this
    grind
  · refine Rat.not_lt.mp fun c => ?_
    have := Rat.mul_lt_mul_of_pos_right c hp
    grind
noncomputable def Dg (n : Nat) (q : Rat) : Prop := Sz (10 ^ n) q
theorem ten_le {a b : Nat} (h : a ≤ b) : 10 ^ a ≤ 10 ^ b := Nat.pow_le_pow_right (by decide) h
theorem ten_two (a b : Nat) : 2 * (10 ^ a * 10 ^ b) ≤ 10 ^ (a + b + 1) := by
  rw [Nat.pow_succ, Nat.pow_add]
  omega
theorem Dg.mono {a b : Nat} {q : Rat} (h : Dg a q) (l : a ≤ b) : Dg b q := Sz.mono h (ten_le l)
theorem Dg.add {a b : Nat} {p q : Rat} (hp : Dg a p) (hq : Dg b q) : Dg (a + b + 1) (p + q) := (Sz.add hp hq).mono (ten_two a b)
theorem Dg.sub {a b : Nat} {p q : Rat} (hp : Dg a p) (hq : Dg b q) : Dg (a + b + 1) (p - q) := (Sz.sub hp hq).mono (ten_two a b)
theorem Dg.neg {a : Nat} {p : Rat} (hp : Dg a p) : Dg a (-p) := Sz.neg hp
theorem Dg.of {n : Nat} {t b : Int} (hb : b ≠ 0) (h1 : t.natAbs ≤ 10 ^ n) (h2 : b.natAbs ≤ 10 ^ n) : Dg n (Rat.divInt t b) := ⟨Nat.le_trans (num_le t hb) h1, Nat.le_trans (den_le t hb) h2⟩
theorem Dg.one {n : Nat} : Dg n 1 := ⟨Nat.pow_pos (n := n) (by decide), Nat.pow_pos (n := n) (by decide)⟩
theorem Dg.int {n : Nat} {i : Int} (h : i.natAbs ≤ 10 ^ n) : Dg n (i : Rat) := ⟨h, Nat.pow_pos (n := n) (by decide)⟩
noncomputable def absR (q : Rat) : Rat := ⟨(q.num.natAbs : Int), q.den, q.den_nz, by simpa using q.reduced⟩
theorem absR_num (q : Rat) : (absR q).num = ((q.num.natAbs : Nat) : Int) := rfl
theorem absR_pos {q : Rat} (h : 0 ≤ q) : absR q = q := by
  have := Rat.num_nonneg.mpr h
  exact Rat.ext (by rw [absR_num]; omega) rfl
theorem absR_neg {q : Rat} (h : q ≤ 0) : absR q = -q := by
  have h1 : 0 ≤ -q := by grind
  have := Rat.num_nonneg.mpr h1
  exact Rat.ext (by rw [absR_num]; show _ = -q.num; have e : (-q).num = -q.num := rfl; omega) rfl
theorem absR_cases (q : Rat) : (0 ≤ q ∧ absR q = q) ∨ (q ≤ 0 ∧ absR q = -q) := by
  rcases Rat.le_total (a := 0) (b := q) with h | h
  · exact .inl ⟨h, absR_pos h⟩
  · exact .inr ⟨h, absR_neg h⟩
theorem Cm.abs {L B : Nat} {q : Rat} (h : Cm L B q) : Cm L B (absR q) := by
  rcases absR_cases q with ⟨_, e⟩ | ⟨_, e⟩
  · rw [e]; exact h
  · rw [e]; exact h.neg
theorem Dg.abs {n : Nat} {q : Rat} (h : Dg n q) : Dg n (absR q) := ⟨by rw [absR_num]; exact h.n, h.d⟩
theorem Cm.dg {L B l b : Nat} {q : Rat} (h : Cm L B q) (hL : 0 < L) (h1 : L ≤ 10 ^ l) (h2 : B ≤ 10 ^ b) : Dg (b + l + 1) q := by
  refine (h.sz hL).mono ?_
  have e : (B + 1) * L ≤ (10 ^ b + 10 ^ b) * 10 ^ l := Nat.mul_le_mul (by have := Nat.pow_pos (n := b) (show 0 < 10 by decide); omega) h1
  have := ten_two b l
  rw [Nat.add_mul (10 ^ b)] at e
  omega
end Fm
namespace Dl
open PySem PySem.Spec PyProof.Rows L2 Lx
inductive Sl where
  | dat (d : PyData)
  | own (ds : List PyData)
    | exc (C : Addr)
    | two (xs ys : List PyData)
    | fz (as : List Addr) (d : PyData)
noncomputable abbrev DEn := List (Option Sl)
noncomputable def slot : DEn → Nat → Option Sl
  | [], _ => none
  | x :: _, 0 => x
  | _ :: xs, n + 1 => slot xs n
noncomputable def put (s : Option Sl) : Nat → DEn → DEn
  | _, [] => []
  | 0, _ :: xs => s :: xs
  | n + 1, x :: xs => x :: put s n xs
theorem slot_put (s : Option Sl) : ∀ (i j : Nat) (δ : DEn), slot (put s i δ) j = if j = i ∧ i < δ.length then s else slot δ j
  | i, j, [] => by cases i <;> simp [put, slot]
  | 0, 0, x :: xs => by simp [put, slot]
  | 0, j + 1, x :: xs => by simp [put, slot]
  | i + 1, 0, x :: xs => by simp [put, slot]
  | i + 1, j + 1, x :: xs => by
    have := slot_put s i j xs
    simp only [put, slot, this, List.length_cons]
    simp
theorem put_len (s : Option Sl) : ∀ (i : Nat) (δ : DEn), (put s i δ).length = δ.length
  | i, [] => by cases i <;> rfl
  | 0, x :: xs => rfl
  | i + 1, x :: xs => by simp [put, put_len s i xs]
theorem sqT_same {K : PySem.W.Frag} {H H' : Hp} {a : Addr} {xs : List V} (e : Same H H') (h : SqT K H a xs) : SqT K H' a xs := by
  rcases h with (h | ⟨o, h⟩) | h
  · exact .inl (.inl (e _ _ h))
  · exact .inl (.inr ⟨o, e _ _ h⟩)
  · exact .inr h
mutual
theorem dv_same {K : PySem.W.Frag} {H H' : Hp} (s : Same H H') : ∀ {x : V} {d : PyData}, DV K H x d → DV K H' x d
  | _, _, .non => .non
  | _, _, .bl b => .bl b
  | _, _, .int i => .int i
  | _, _, .str x => .str x
  | _, _, .tup h hs => .tup (sqT_same s h) (dvs_same s hs)
  | _, _, .lst h hs => .lst (s.seq h) (dvs_same s hs)
  | _, _, .dct h => .dct (s _ _ h)
theorem dvs_same {K : PySem.W.Frag} {H H' : Hp} (s : Same H H') : ∀ {xs : List V} {ds : List PyData}, DVs K H xs ds → DVs K H' xs ds
  | _, _, .nil => .nil
  | _, _, .cons h t => .cons (dv_same s h) (dvs_same s t)
end
mutual
noncomputable def flatD : PyData → Bool
  | .none => true
  | .bool _ => true
  | .int _ => true
  | .str _ => true
  | .list _ => false
  | .tuple ds => flatDs ds
  | .dict _ => true
noncomputable def flatDs : List PyData → Bool
  | [] => true
  | d :: ds => flatD d && flatDs ds
end
noncomputable def Sub (G H : Hp) : Prop := ∀ b, G b = H b ∨ (G b = none ∧ ∃ xs, H b = some (.lst xs))
theorem Sub.same {G H : Hp} (s : Sub G H) : Same G H := fun b o e => by
  rcases s b with h | ⟨h, _⟩
  · rw [← h]; exact e
  · rw [h] at e; cases e
theorem Sub.refl (H : Hp) : Sub H H := fun _ => .inl rfl
theorem Sub.other {G H : Hp} (s : Sub G H) {b : Addr} {o : HO} (h : H b = some o) (n : ∀ xs, o ≠ .lst xs) : G b = some o := by
  rcases s b with e | ⟨_, xs, e⟩
  · rw [e]; exact h
  · rw [h] at e; cases e; exact absurd rfl (n xs)
mutual
theorem dv_flat {K : PySem.W.Frag} {G H : Hp} (s : ∀ b o, H b = some o → (∀ xs, o ≠ .lst xs) → G b = some o) : ∀ {x : V} {d : PyData}, DV K H x d → flatD d = true → DV K G x d
  | _, _, .non, _ => .non
  | _, _, .bl b, _ => .bl b
  | _, _, .int i, _ => .int i
  | _, _, .str x, _ => .str x
  | _, _, .tup h hs, f => .tup (by
      rcases h with (h | ⟨o, h⟩) | h
      · exact .inl (.inl (s _ _ h (by intro xs z; cases z)))
      · exact .inl (.inr ⟨o, s _ _ h (by intro xs z; cases z)⟩)
      · exact .inr h) (dvs_flat s hs f)
  | _, _, .lst _ _, f => by cases f
  | _, _, .dct h, _ => .dct (s _ _ h (by intro xs z; cases z))
theorem dvs_flat {K : PySem.W.Frag} {G H : Hp} (s : ∀ b o, H b = some o → (∀ xs, o ≠ .lst xs) → G b = some o) : ∀ {xs : List V} {ds : List PyData}, DVs K H xs ds → flatDs ds = true → DVs K G xs ds
  | _, _, .nil, _ => .nil
  | _, _, .cons h t, f => by
    simp only [flatDs, Bool.and_eq_true] at f
    exact .cons (dv_flat s h f.1) (dvs_flat s t f.2)
end
end Dl
namespace Lx
open PySem PySem.Spec PyProof.Rows L2
theorem DVs.len {K : PySem.W.Frag} {H : Hp} : ∀ {xs : List V} {ds : List PyData}, DVs K H xs ds → xs.length = ds.length
  | _, _, .nil => rfl
  | _, _, .cons _ t => congrArg (· + 1) (DVs.len t)
theorem DVs.at {K : PySem.W.Frag} {H : Hp} : ∀ {xs : List V} {ds : List PyData} {i : Nat} {d : PyData}, DVs K H xs ds → ds[i]? = some d → ∃ x, xs[i]? = some x ∧ DV K H x d
  | _, _, _, _, .nil, e => by simp at e
  | _, _, 0, _, .cons h _, e => by
    simp at e
    subst e
    exact ⟨_, rfl, h⟩
  | _, _, i + 1, _, .cons _ t, e => by
    obtain ⟨x, h1, h2⟩ := DVs.at (i := i) t (by simpa using e)
    exact ⟨x, by simpa using h1, h2⟩
theorem DVs.append {K : PySem.W.Frag} {H : Hp} : ∀ {xs ys : List V} {ds es : List PyData}, DVs K H xs ds → DVs K H ys es → DVs K H (xs ++ ys) (ds ++ es)
  | _, _, _, _, .nil, h => h
  | _, _, _, _, .cons r t, h => .cons r (DVs.append t h)
theorem DVs.take {K : PySem.W.Frag} {H : Hp} : ∀ {xs : List V} {ds : List PyData} (n : Nat), DVs K H xs ds → DVs K H (xs.take n) (ds.take n)
  | _, _, 0, _ => by simp only [List.take_zero]; exact .nil
  | _, _, _ + 1, .nil => .nil
  | _, _, n + 1, .cons r t => .cons r (DVs.take n t)
theorem DVs.drop {K : PySem.W.Frag} {H : Hp} : ∀ {xs : List V} {ds : List PyData} (n : Nat), DVs K H xs ds → DVs K H (xs.drop n) (ds.drop n)
  | _, _, 0, h => by simp only [List.drop_zero]; exact h
  | _, _, _ + 1, .nil => .nil
  | _, _, n + 1, .cons _ t => DVs.drop n t
theorem DVs.set {K : PySem.W.Frag} {H : Hp} {x : V} {d : PyData} (r : DV K H x d) : ∀ {xs : List V} {ds : List PyData} (i : Nat), DVs K H xs ds → DVs K H (xs.set i x) (ds.set i d)
  | _, _, _, .nil => .nil
  | _, _, 0, .cons _ t => .cons r t
  | _, _, i + 1, .cons q t => .cons q (DVs.set r i t)
end Lx
namespace Dl
open PySem PySem.Spec PyProof.Rows L2 Lx
inductive Rws (K : PySem.W.Frag) (G H : Hp) : List Addr → List (List PyData) → Prop
  | nil : Rws K G H [] []
  | cons {b : Addr} {bs : List Addr} {vs : List V} {ds : List PyData} {dss : List (List PyData)} : H b = some (.lst vs) → DVs K G vs ds → Rws K G H bs dss → Rws K G H (b :: bs) (ds :: dss)
theorem Rws.mono {K : PySem.W.Frag} {G H G' H' : Hp} (g : Same G G') (h : Same H H') : ∀ {bs : List Addr} {dss : List (List PyData)}, Rws K G H bs dss → Rws K G' H' bs dss
  | _, _, .nil => .nil
  | _, _, .cons h1 h2 r => .cons (h _ _ h1) (dvs_same g h2) (r.mono g h)
theorem Rws.dv {K : PySem.W.Frag} {G H : Hp} (Gf : Hp) (g : Same G Gf) : ∀ {bs : List Addr} {dss : List (List PyData)}, (∀ c ∈ bs, Gf c = H c) → Rws K G H bs dss → DVs K Gf (bs.map V.ref) (dss.map PyData.list)
  | _, _, _, .nil => .nil
  | _, _, f, .cons h1 h2 r => .cons (.lst (SqL.of (by rw [f _ List.mem_cons_self]; exact h1)) (dvs_same g h2)) (r.dv Gf g fun c hc => f c (List.mem_cons_of_mem _ hc))
inductive FzIs (K : PySem.W.Frag) (G : Hp) : V → List Addr → PyData → Prop
  | pair {t a b : Addr} {vs ws : List V} {xs ys : List PyData} : SqT K G t [.ref a, .ref b] → a ≠ b → G a = some (.lst vs) → G b = some (.lst ws) → DVs K G vs xs → DVs K G ws ys → FzIs K G (.ref t) [a, b] (.tuple [.list xs, .list ys])
  | one {a : Addr} {vs : List V} {ds : List PyData} : G a = some (.lst vs) → DVs K G vs ds → FzIs K G (.ref a) [a] (.list ds)
  | gr {a : Addr} {cs : List Addr} {dss : List (List PyData)} : G a = some (.lst (cs.map V.ref)) → (a :: cs).Nodup → Rws K G G cs dss → FzIs K G (.ref a) (a :: a :: cs) (.list (dss.map PyData.list))
  | tg {t p a : Addr} {cs : List Addr} {vs : List V} {xs : List PyData} {dss : List (List PyData)} : SqT K G t [.ref p, .ref a] → (p :: a :: cs).Nodup → G p = some (.lst vs) → DVs K G vs xs → G a = some (.lst (cs.map V.ref)) → Rws K G G cs dss → FzIs K G (.ref t) (p :: p :: a :: cs) (.tuple [.list xs, .list (dss.map PyData.list)])
theorem FzIs.same {K : PySem.W.Frag} {G G' : Hp} {v : V} {as : List Addr} {d : PyData} (s : Same G G') (h : FzIs K G v as d) : FzIs K G' v as d := by
  cases h with
  | pair h1 h2 h3 h4 h5 h6 => exact .pair (sqT_same s h1) h2 (s _ _ h3) (s _ _ h4) (dvs_same s h5) (dvs_same s h6)
  | one h1 h2 => exact .one (s _ _ h1) (dvs_same s h2)
  | gr h1 h2 h3 => exact .gr (s _ _ h1) h2 (h3.mono s s)
  | tg h1 h2 h3 h4 h5 h6 => exact .tg (sqT_same s h1) h2 (s _ _ h3) (dvs_same s h4) (s _ _ h5) (h6.mono s s)
theorem FzIs.dv {K : PySem.W.Frag} {G : Hp} {v : V} {as : List Addr} {d : PyData} (h : FzIs K G v as d) : DV K G v d := by
  cases h with
  | pair h1 h2 h3 h4 h5 h6 => exact .tup h1 (.cons (.lst (SqL.of h3) h5) (.cons (.lst (SqL.of h4) h6) .nil))
  | one h1 h2 => exact .lst (SqL.of h1) h2
  | gr h1 h2 h3 => exact .lst (SqL.of h1) (h3.dv G (Same.refl _) fun _ _ => rfl)
  | tg h1 h2 h3 h4 h5 h6 => exact .tup h1 (.cons (.lst (SqL.of h3) h4) (.cons (.lst (SqL.of h5) (h6.dv G (Same.refl _) fun _ _ => rfl)) .nil))
noncomputable def SlIs (K : PySem.W.Frag) (G H : Hp) (v : V) : Sl → Prop
  | .dat d => DV K G v d
  | .own ds => ∃ a vs, v = .ref a ∧ G a = none ∧ H a = some (.lst vs) ∧ DVs K G vs ds
  | .exc C => ∃ x, v = .ref x ∧ G x = some (.ext (IsExc x C))
  | .two _ _ => False
  | .fz as d => FzIs K G v as d
structure Sees (K : PySem.W.Frag) (H₀ G : Hp) (δ : DEn) (σ : L2.St) (H : Hp) : Prop where
  old : Same H₀ G
  sub : Sub G H
  len : δ.length ≤ σ.length
  has : ∀ i s, slot δ i = some s → ∃ v, σ[i]? = some (some v) ∧ SlIs K G H v s
  sep : ∀ i j xs ys a, slot δ i = some (.own xs) → slot δ j = some (.own ys) → σ[i]? = some (some (.ref a)) → σ[j]? = some (some (.ref a)) → i = j
structure Ext (G H G' H' : Hp) : Prop where
  g : Same G G'
  h : Same H H'
  s : Sub G' H'
  n : ∀ b o, G' b = some o → G b = some o ∨ H b = none
theorem Ext.refl {G H : Hp} (s : Sub G H) : Ext G H G H := ⟨Same.refl _, Same.refl _, s, fun _ _ h => .inl h⟩
theorem Ext.trans {G H G1 H1 G2 H2 : Hp} (a : Ext G H G1 H1) (b : Ext G1 H1 G2 H2) : Ext G H G2 H2 :=
  ⟨a.g.trans b.g, a.h.trans b.h, b.s, fun c o h => by
    rcases b.n c o h with z | z
    · exact a.n c o z
    · exact .inr (a.h.free z)⟩
theorem Ext.keep {G H G' H' : Hp} (e : Ext G H G' H') {a : Addr} (hg : G a = none) {o : HO} (hh : H a = some o) : G' a = none := by
  cases q : G' a with
  | none => rfl
  | some u =>
    rcases e.n a u q with z | z
    · rw [hg] at z; cases z
    · rw [hh] at z; cases z
section
variable {K : PySem.W.Frag} {H₀ G H G' H' : Hp} {δ : DEn} {σ : L2.St}
theorem SlIs.ext {v : V} {s : Sl} (e : Ext G H G' H') (h : SlIs K G H v s) : SlIs K G' H' v s := by
  cases s with
  | dat d => exact dv_same e.g h
  | own ds =>
    obtain ⟨a, vs, rfl, hg, hh, hd⟩ := h
    exact ⟨a, vs, rfl, e.keep hg hh, e.h _ _ hh, dvs_same e.g hd⟩
  | two xs ys => exact h.elim
  | fz as d => exact FzIs.same e.g h
  | exc C =>
    obtain ⟨x, rfl, hx⟩ := h
    exact ⟨x, rfl, e.g _ _ hx⟩
theorem Sees.ext (S : Sees K H₀ G δ σ H) (e : Ext G H G' H') : Sees K H₀ G' δ σ H' :=
  ⟨S.old.trans e.g, e.s, S.len, fun i s h => by
    obtain ⟨v, h1, h2⟩ := S.has i s h
    exact ⟨v, h1, h2.ext e⟩, S.sep⟩
theorem Sees.refl (S : Sees K H₀ G δ σ H) : Ext G H G H := .refl S.sub
theorem Sees.oldH (S : Sees K H₀ G δ σ H) : Same H₀ H := S.old.trans S.sub.same
theorem slot_lt : ∀ {δ : DEn} {i : Nat} {s : Sl}, slot δ i = some s → i < δ.length
  | [], _, _, h => by cases h
  | _ :: _, 0, _, _ => Nat.zero_lt_succ _
  | _ :: xs, i + 1, s, h => Nat.succ_lt_succ (slot_lt (δ := xs) (i := i) (s := s) h)
theorem Sees.setS {v : V} {s : Sl} (S : Sees K H₀ G δ σ H) (i : Nat) (h : SlIs K G H v s) (hs : ∀ ds j es a, s = .own ds → slot δ j = some (.own es) → σ[j]? = some (some (.ref a)) → v ≠ .ref a) : Sees K H₀ G (put (some s) i δ) (σ.set i (some v)) H := by
  have look : ∀ j u, slot (put (some s) i δ) j = some u → (j = i ∧ u = s ∧ (σ.set i (some v))[j]? = some (some v)) ∨ (j ≠ i ∧ slot δ j = some u ∧ (σ.set i (some v))[j]? = σ[j]?) := fun j u hj => by
    rw [slot_put] at hj
    split at hj
    · rename_i hc
      obtain ⟨rfl, hl⟩ := hc
      cases hj
      exact .inl ⟨rfl, rfl, by rw [List.getElem?_set_self (Nat.lt_of_lt_of_le hl S.len)]⟩
    · rename_i hc
      have hji : j ≠ i := fun z => hc ⟨z, by rw [← z]; exact slot_lt hj⟩
      exact .inr ⟨hji, hj, by rw [List.getElem?_set_ne (Ne.symm hji)]⟩
  refine ⟨S.old, S.sub, by rw [put_len, List.length_set]; exact S.len, fun j u hj => ?_, fun j k xs ys a hj hk e1 e2 => ?_⟩
  · rcases look j u hj with ⟨rfl, rfl, e⟩ | ⟨_, h1, e⟩
    · exact ⟨v, e, h⟩
    · rw [e]; exact S.has j u h1
  · rcases look j _ hj with ⟨rfl, z1, e3⟩ | ⟨n1, h1, e3⟩ <;> rcases look k _ hk with ⟨rfl, z2, e4⟩ | ⟨n2, h2, e4⟩
    · rfl
    · rw [e3] at e1; rw [e4] at e2
      cases e1
      exact absurd rfl (hs xs k ys a z1.symm h2 e2)
    · rw [e3] at e1; rw [e4] at e2
      cases e2
      exact absurd rfl (hs ys j xs a z2.symm h1 e1)
    · rw [e3] at e1; rw [e4] at e2
      exact S.sep j k xs ys a h1 h2 e1 e2
theorem Sees.unset (S : Sees K H₀ G δ σ H) (i : Nat) : Sees K H₀ G (put none i δ) (σ.set i none) H := by
  have look : ∀ j u, slot (put none i δ) j = some u → j ≠ i ∧ slot δ j = some u := fun j u hj => by
    rw [slot_put] at hj
    split at hj
    · cases hj
    · rename_i hc
      exact ⟨fun z => hc ⟨z, by rw [← z]; exact slot_lt hj⟩, hj⟩
  refine ⟨S.old, S.sub, by rw [put_len, List.length_set]; exact S.len, fun j u hj => ?_, fun j k xs ys a hj hk e1 e2 => ?_⟩
  · obtain ⟨n1, h1⟩ := look j u hj
    rw [List.getElem?_set_ne (Ne.symm n1)]
    exact S.has j u h1
  · obtain ⟨n1, h1⟩ := look j _ hj
    obtain ⟨n2, h2⟩ := look k _ hk
    rw [List.getElem?_set_ne (Ne.symm n1)] at e1
    rw [List.getElem?_set_ne (Ne.symm n2)] at e2
    exact S.sep j k xs ys a h1 h2 e1 e2
theorem Sees.setD {v : V} {d : PyData} (S : Sees K H₀ G δ σ H) (i : Nat) (h : DV K G v d) : Sees K H₀ G (put (some (.dat d)) i δ) (σ.set i (some v)) H :=
  S.setS i (s := .dat d) h fun _ _ _ _ z => nomatch z
theorem Sees.ownAt (S : Sees K H₀ G δ σ H) {i : Nat} {ds : List PyData} (h : slot δ i = some (.own ds)) : ∃ a vs, σ[i]? = some (some (.ref a)) ∧ G a = none ∧ H a = some (.lst vs) ∧ DVs K G vs ds := by
  obtain ⟨v, h1, a, vs, rfl, h2, h3, h4⟩ := S.has i _ h
  exact ⟨a, vs, h1, h2, h3, h4⟩
theorem Sees.setO {a : Addr} {vs : List V} {ds : List PyData} (S : Sees K H₀ G δ σ H) (e : Ext G H G' H') (i : Nat) (hn : H a = none) (hg : G' a = none) (hh : H' a = some (.lst vs)) (hd : DVs K G' vs ds) :
    Sees K H₀ G' (put (some (.own ds)) i δ) (σ.set i (some (.ref a))) H' :=
  (S.ext e).setS i (s := .own ds) ⟨a, vs, rfl, hg, hh, hd⟩ fun _ j es b _ h1 h2 z => by
    cases z
    obtain ⟨c, ws, q1, q2, q3, q4⟩ := S.ownAt h1
    rw [h2] at q1
    cases q1
    rw [hn] at q3; cases q3
theorem Sees.updO {i : Nat} {a : Addr} {ds es : List PyData} {vs : List V} (S : Sees K H₀ G δ σ H) (h : slot δ i = some (.own ds)) (ha : σ[i]? = some (some (.ref a))) (hd : DVs K G vs es) :
    Sees K H₀ G (put (some (.own es)) i δ) σ (upd H a (.lst vs)) := by
  obtain ⟨b, ws, q1, q2, q3, q4⟩ := S.ownAt h
  rw [ha] at q1
  cases q1
  have look : ∀ j u, slot (put (some (.own es)) i δ) j = some u → (j = i ∧ u = .own es) ∨ (j ≠ i ∧ slot δ j = some u) := fun j u hj => by
    rw [slot_put] at hj
    split at hj
    · rename_i hc
      cases hj
      exact .inl ⟨hc.1, rfl⟩
    · rename_i hc
      exact .inr ⟨fun z => hc ⟨z, by rw [← z]; exact slot_lt hj⟩, hj⟩
  refine ⟨S.old, fun c => ?_, by rw [put_len]; exact S.len, fun j u hj => ?_, fun j k xs ys c hj hk e1 e2 => ?_⟩
  · by_cases z : c = a
    · subst z
      exact .inr ⟨q2, vs, upd_same⟩
    · rw [upd_ne z]; exact S.sub c
  · rcases look j u hj with ⟨rfl, rfl⟩ | ⟨n1, h1⟩
    · exact ⟨_, ha, a, vs, rfl, q2, upd_same, hd⟩
    · obtain ⟨v, h2, h3⟩ := S.has j u h1
      refine ⟨v, h2, ?_⟩
      cases u with
      | dat d => exact h3
      | two xs ys => exact h3.elim
      | fz as d => exact h3
      | exc C => exact h3
      | own xs =>
        obtain ⟨c, ws, rfl, p1, p2, p3⟩ := h3
        refine ⟨c, ws, rfl, p1, ?_, p3⟩
        rw [upd_ne (fun z => ?_)]
        · exact p2
        · subst z
          exact n1 (S.sep j i xs ds c h1 h h2 ha)
  · rcases look j _ hj with ⟨rfl, _⟩ | ⟨n1, h1⟩ <;> rcases look k _ hk with ⟨rfl, _⟩ | ⟨n2, h2⟩
    · rfl
    · exact S.sep j k ds ys c h h2 e1 e2
    · exact S.sep j k xs ds c h1 h e1 e2
    · exact S.sep j k xs ys c h1 h2 e1 e2
theorem Sees.frz {i : Nat} {ds : List PyData} (S : Sees K H₀ G δ σ H) (h : slot δ i = some (.own ds)) : ∃ G', Same G G' ∧ Sees K H₀ G' (put (some (.dat (.list ds))) i δ) σ H := by
  obtain ⟨a, vs, q1, q2, q3, q4⟩ := S.ownAt h
  have sg : Same G (upd G a (.lst vs)) := fun b o e => by rw [upd_ne (ne_of_none e q2)]; exact e
  refine ⟨upd G a (.lst vs), sg, S.old.trans sg, fun b => ?_, by rw [put_len]; exact S.len, fun j u hj => ?_, fun j k xs ys c hj hk e1 e2 => ?_⟩
  · by_cases z : b = a
    · subst z
      exact .inl (by rw [upd_same, q3])
    · rw [upd_ne z]; exact S.sub b
  · rw [slot_put] at hj
    split at hj
    · rename_i hc
      cases hj
      exact ⟨_, by rw [hc.1]; exact q1, .lst (SqL.of upd_same) (dvs_same sg q4)⟩
    · rename_i hc
      have hji : j ≠ i := fun z => hc ⟨z, by rw [← z]; exact slot_lt hj⟩
      obtain ⟨v, h2, h3⟩ := S.has j u hj
      refine ⟨v, h2, ?_⟩
      cases u with
      | dat d => exact dv_same sg h3
      | two xs ys => exact h3.elim
      | fz as d => exact FzIs.same sg h3
      | exc C =>
        obtain ⟨x, rfl, hx⟩ := h3
        exact ⟨x, rfl, sg _ _ hx⟩
      | own xs =>
        obtain ⟨c, ws, rfl, p1, p2, p3⟩ := h3
        refine ⟨c, ws, rfl, ?_, p2, dvs_same sg p3⟩
        rw [upd_ne (fun z => ?_)]
        · exact p1
        · subst z
          exact hji (S.sep j i xs ds c hj h h2 q1)
  · have look : ∀ j u, slot (put (some (.dat (.list ds))) i δ) j = some (.own u) → slot δ j = some (.own u) := fun j u hj => by
      rw [slot_put] at hj
      split at hj
      · cases hj
      · exact hj
    exact S.sep j k xs ys c (look _ _ hj) (look _ _ hk) e1 e2
end
noncomputable abbrev DX := Addr → Prop
noncomputable abbrev DE := DX → DEn → (PyData → Prop) → Prop
noncomputable abbrev DL := DX → DEn → (List PyData → Prop) → Prop
noncomputable abbrev DT := DX → DEn → (Bool → Prop) → Prop
noncomputable def ExOk (H₀ : Hp) (E : XK) (ex : DX) : Prop := ∀ C H', Same H₀ H' → ex C → E (.ref C) none H'
section
variable (K : PySem.W.Frag) (H₀ : Hp) (E : XK)
noncomputable def EvD (te : TE) (de : DE) : Prop := ∀ ex δ σ G H Qd Q, ExOk H₀ E ex → Sees K H₀ G δ σ H → de ex δ Qd → (∀ v d G' H', Ext G H G' H' → DV K G' v d → Qd d → Q v H') → te σ H Q
noncomputable def BvD (te : TE) (de : DE) : Prop := ∀ ex δ σ G H Qd Q, ExOk H₀ E ex → Sees K H₀ G δ σ H → de ex δ Qd → (∀ v d G' H', Ext G H G' H' → DV K H' v d → Qd d → Q v H') → te σ H Q
noncomputable def LvD (te : TE) (dl : DL) : Prop := ∀ ex δ σ G H Qd Q, ExOk H₀ E ex → Sees K H₀ G δ σ H → dl ex δ Qd → (∀ a vs ds G' H', Ext G H G' H' → SqL K H' a vs → DVs K G' vs ds → Qd ds → Q (.ref a) H') → te σ H Q
noncomputable def OvD (te : TE) (dl : DL) : Prop := ∀ ex δ σ G H Qd Q, ExOk H₀ E ex → Sees K H₀ G δ σ H → dl ex δ Qd → (∀ a vs ds G' H', Ext G H G' H' → H a = none → G' a = none → H' a = some (.lst vs) → DVs K G' vs ds → Qd ds → Q (.ref a) H') → te σ H Q
noncomputable def TvD (tt : TT) (dt : DT) : Prop := ∀ ex δ σ G H Qd Q, ExOk H₀ E ex → Sees K H₀ G δ σ H → dt ex δ Qd → (∀ b G' H', Ext G H G' H' → Qd b → Q b H') → tt σ H Q
noncomputable def AvD (ta : TA) (dl : DL) : Prop := ∀ ex δ σ G H Qd Q, ExOk H₀ E ex → Sees K H₀ G δ σ H → dl ex δ Qd → (∀ vs ds G' H', Ext G H G' H' → DVs K H' vs ds → Qd ds → Q vs H') → ta σ H Q
noncomputable def AvE (ta : TA) (n : Nat) (dl : DL) : Prop := ∀ ex δ σ G H Qd Q, ExOk H₀ E ex → Sees K H₀ G δ σ H → dl ex δ Qd → (∀ vs ds G' H', Ext G H G' H' → DVs K G' vs ds → ds.length = n → Qd ds → Q vs H') → ta σ H Q
end
noncomputable def dVar (i : Nat) (_ex : DX) (δ : DEn) (Q : PyData → Prop) : Prop := match slot δ i with
  | some (.dat d) => Q d
  | _ => False
noncomputable def dBVar (i : Nat) (_ex : DX) (δ : DEn) (Q : PyData → Prop) : Prop := match slot δ i with
  | some (.dat d) => Q d
  | some (.own ds) => Q (.list ds)
  | _ => False
noncomputable def dLVar (i : Nat) (_ex : DX) (δ : DEn) (Q : List PyData → Prop) : Prop := match slot δ i with
  | some (.dat (.list ds)) => Q ds
  | some (.own ds) => Q ds
  | _ => False
noncomputable def dC (d : PyData) (_ex : DX) (_δ : DEn) (Q : PyData → Prop) : Prop := Q d
noncomputable def dFz (dl : DL) (ex : DX) (δ : DEn) (Q : PyData → Prop) : Prop := dl ex δ fun ds => Q (.list ds)
noncomputable def dAsL (de : DE) (ex : DX) (δ : DEn) (Q : List PyData → Prop) : Prop := de ex δ fun d => match d with
  | .list ds => Q ds
  | _ => False
noncomputable def dNil (_ex : DX) (_δ : DEn) (Q : List PyData → Prop) : Prop := Q []
noncomputable def dCons (de : DE) (dl : DL) (ex : DX) (δ : DEn) (Q : List PyData → Prop) : Prop := de ex δ fun d => dl ex δ fun ds => Q (d :: ds)
section
variable {K : PySem.W.Frag} {H₀ : Hp} {E : XK} {te : TE} {de : DE} {dl : DL} {ta : TA}
theorem bv_ev (h : EvD K H₀ E te de) : BvD K H₀ E te de := fun ex δ σ G H Qd Q hx S q k =>
  h ex δ σ G H Qd Q hx S q fun v d G' H' e hd => k v d G' H' e (dv_same e.s.same hd)
theorem ev_ov (h : OvD K H₀ E te dl) : EvD K H₀ E te (dFz dl) := fun ex δ σ G H Qd Q hx S q k =>
  h ex δ σ G H _ Q hx S q fun a vs ds G' H' e hn hg hh hd qd => by
    have sg : Same G' (upd G' a (.lst vs)) := fun b o z => by rw [upd_ne (ne_of_none z hg)]; exact z
    refine k (.ref a) (.list ds) (upd G' a (.lst vs)) H' ⟨e.g.trans sg, e.h, fun b => ?_, fun b o z => ?_⟩ (.lst (SqL.of upd_same) (dvs_same sg hd)) qd
    · by_cases w : b = a
      · subst w; exact .inl (by rw [upd_same, hh])
      · rw [upd_ne w]; exact e.s b
    · by_cases w : b = a
      · subst w; exact .inr hn
      · rw [upd_ne w] at z; exact e.n b o z
theorem lv_ov (h : OvD K H₀ E te dl) : LvD K H₀ E te dl := fun ex δ σ G H Qd Q hx S q k =>
  h ex δ σ G H _ Q hx S q fun a vs ds G' H' e hn hg hh hd qd => k a vs ds G' H' e (SqL.of hh) hd qd
theorem dv_list {G : Hp} {v : V} {ds : List PyData} (h : DV K G v (.list ds)) : ∃ a vs, v = .ref a ∧ SqL K G a vs ∧ DVs K G vs ds := by
  cases h with
  | lst h1 h2 => exact ⟨_, _, rfl, h1, h2⟩
theorem dv_tuple {G : Hp} {v : V} {ds : List PyData} (h : DV K G v (.tuple ds)) : ∃ a vs, v = .ref a ∧ SqT K G a vs ∧ DVs K G vs ds := by
  cases h with
  | tup h1 h2 => exact ⟨_, _, rfl, h1, h2⟩
theorem dv_int {G : Hp} {v : V} {i : Int} (h : DV K G v (.int i)) : v = .int i := by cases h; rfl
theorem dv_bl {G : Hp} {v : V} {i : Bool} (h : DV K G v (.bool i)) : v = .bl i := by cases h; rfl
theorem dv_str {G : Hp} {v : V} {i : Str} (h : DV K G v (.str i)) : v = .str i := by cases h; rfl
theorem dv_non {G : Hp} {v : V} (h : DV K G v .none) : v = .non := by cases h; rfl
theorem ev_var (i : Nat) : EvD K H₀ E (tVar i) (dVar i) := fun ex δ σ G H Qd Q hx S q k => by
  unfold dVar at q
  split at q
  · rename_i d hs
    obtain ⟨v, h1, h2⟩ := S.has i _ hs
    exact ⟨v, h1, k v d G H S.refl h2 q⟩
  · exact q.elim
theorem bv_var (i : Nat) : BvD K H₀ E (tVar i) (dBVar i) := fun ex δ σ G H Qd Q hx S q k => by
  unfold dBVar at q
  split at q
  · rename_i d hs
    obtain ⟨v, h1, h2⟩ := S.has i _ hs
    exact ⟨v, h1, k v d G H S.refl (dv_same S.sub.same h2) q⟩
  · rename_i ds hs
    obtain ⟨a, vs, h1, h2, h3, h4⟩ := S.ownAt hs
    exact ⟨_, h1, k _ _ G H S.refl (.lst (SqL.of h3) (dvs_same S.sub.same h4)) q⟩
  · exact q.elim
theorem lv_var (i : Nat) : LvD K H₀ E (tVar i) (dLVar i) := fun ex δ σ G H Qd Q hx S q k => by
  unfold dLVar at q
  split at q
  · rename_i ds hs
    obtain ⟨v, h1, h2⟩ := S.has i _ hs
    obtain ⟨a, vs, rfl, h3, h4⟩ := dv_list h2
    exact ⟨_, h1, k a vs ds G H S.refl (S.sub.same.seq h3) h4 q⟩
  · rename_i ds hs
    obtain ⟨a, vs, h1, h2, h3, h4⟩ := S.ownAt hs
    exact ⟨_, h1, k a vs ds G H S.refl (SqL.of h3) h4 q⟩
  · exact q.elim
theorem ev_c {v : V} {d : PyData} (h : ∀ G : Hp, DV K G v d) : EvD K H₀ E (tC v) (dC d) := fun ex δ σ G H Qd Q hx S q k => k v d G H S.refl (h G) q
theorem ev_int {i : Int} : EvD K H₀ E (tC (.int i)) (dC (.int i)) := ev_c fun _ => .int i
theorem ev_bl {i : Bool} : EvD K H₀ E (tC (.bl i)) (dC (.bool i)) := ev_c fun _ => .bl i
theorem ev_str {i : Str} : EvD K H₀ E (tC (.str i)) (dC (.str i)) := ev_c fun _ => .str i
theorem ev_non : EvD K H₀ E (tC .non) (dC .none) := ev_c fun _ => .non
theorem av_nil : AvD K H₀ E tNil dNil := fun ex δ σ G H Qd Q hx S q k => k [] [] G H S.refl .nil q
theorem av_cons (h : BvD K H₀ E te de) (t : AvD K H₀ E ta dl) : AvD K H₀ E (tCons te ta) (dCons de dl) := fun ex δ σ G H Qd Q hx S q k =>
  h ex δ σ G H _ _ hx S q fun v d G1 H1 e1 hd q1 => t ex δ σ G1 H1 _ _ hx (S.ext e1) q1 fun vs ds G2 H2 e2 hds q2 =>
    k (v :: vs) (d :: ds) G2 H2 (e1.trans e2) (.cons (dv_same e2.h hd) hds) q2
theorem ae_nil : AvE K H₀ E tNil 0 dNil := fun ex δ σ G H Qd Q hx S q k => k [] [] G H S.refl .nil rfl q
theorem ae_cons {n : Nat} (h : EvD K H₀ E te de) (t : AvE K H₀ E ta n dl) : AvE K H₀ E (tCons te ta) (n + 1) (dCons de dl) := fun ex δ σ G H Qd Q hx S q k =>
  h ex δ σ G H _ _ hx S q fun v d G1 H1 e1 hd q1 => t ex δ σ G1 H1 _ _ hx (S.ext e1) q1 fun vs ds G2 H2 e2 hds hn q2 =>
    k (v :: vs) (d :: ds) G2 H2 (e1.trans e2) (.cons (dv_same e2.g hd) hds) (by rw [List.length_cons, hn]) q2
theorem ext_new {G H : Hp} {p : Addr} {xs : List V} (s : Sub G H) (hp : H p = none) : Ext G H (upd G p (.tup xs)) (upd H p (.tup xs)) := by
  have hg : G p = none := s.same.free hp
  refine ⟨fun b o z => by rw [upd_ne (ne_of_none z hg)]; exact z, fun b o z => by rw [upd_ne (ne_of_none z hp)]; exact z, fun b => ?_, fun b o z => ?_⟩
  · by_cases w : b = p
    · subst w; exact .inl (by rw [upd_same, upd_same])
    · rw [upd_ne w, upd_ne w]; exact s b
  · by_cases w : b = p
    · subst w; exact .inr hp
    · rw [upd_ne w] at z; exact .inl z
theorem ext_newO {G H : Hp} {p : Addr} {o : HO} (s : Sub G H) (hp : H p = none) : Ext G H (upd G p o) (upd H p o) := by
  have hg : G p = none := s.same.free hp
  refine ⟨fun b u z => by rw [upd_ne (ne_of_none z hg)]; exact z, fun b u z => by rw [upd_ne (ne_of_none z hp)]; exact z, fun b => ?_, fun b u z => ?_⟩
  · by_cases w : b = p
    · subst w; exact .inl (by rw [upd_same, upd_same])
    · rw [upd_ne w, upd_ne w]; exact s b
  · by_cases w : b = p
    · subst w; exact .inr hp
    · rw [upd_ne w] at z; exact .inl z
theorem ext_newL {G H : Hp} {p : Addr} {xs : List V} (s : Sub G H) (hp : H p = none) : Ext G H G (upd H p (.lst xs)) ∧ G p = none := by
  have hg : G p = none := s.same.free hp
  refine ⟨⟨Same.refl _, fun b o z => by rw [upd_ne (ne_of_none z hp)]; exact z, fun b => ?_, fun b o z => .inl z⟩, hg⟩
  by_cases w : b = p
  · subst w; exact .inr ⟨hg, xs, upd_same⟩
  · rw [upd_ne w]; exact s b
noncomputable def dTup (dl : DL) (ex : DX) (δ : DEn) (Q : PyData → Prop) : Prop := dl ex δ fun ds => Q (.tuple ds)
noncomputable def dLst (dl : DL) (ex : DX) (δ : DEn) (Q : List PyData → Prop) : Prop := dl ex δ Q
theorem ev_tup {n : Nat} (h : AvE K H₀ E ta n dl) (hn : n ≤ 1000) : EvD K H₀ E (tTup ta) (dTup dl) := fun ex δ σ G H Qd Q hx S q k =>
  h ex δ σ G H _ _ hx S q fun vs ds G1 H1 e1 hd q0 q1 => ⟨Nat.le_of_lt (small1000 (by rw [hd.len, q0]; exact hn)), fun p hp => by
    have e2 := ext_new (xs := vs) e1.s hp
    exact k (.ref p) (.tuple ds) _ _ (e1.trans e2) (.tup (SqT.of upd_same) (dvs_same e2.g hd)) q1⟩
theorem ov_lst {n : Nat} (h : AvE K H₀ E ta n dl) (hn : n ≤ 1000) : OvD K H₀ E (tLst ta) (dLst dl) := fun ex δ σ G H Qd Q hx S q k =>
  h ex δ σ G H _ _ hx S q fun vs ds G1 H1 e1 hd q0 q1 => ⟨Nat.le_of_lt (small1000 (by rw [hd.len, q0]; exact hn)), fun p hp => by
    obtain ⟨e2, hg⟩ := ext_newL (xs := vs) e1.s hp
    exact k p vs ds _ _ (e1.trans e2) (e1.h.free hp) hg upd_same hd q1⟩
end
section
variable {K : PySem.W.Frag} {H₀ : Hp} {E : XK} {te ta tb : TE} {da db de : DE} {dl dk : DL} {t : TA} {tt tu : TT} {dt du : DT}
noncomputable abbrev RD2 := PyData → PyData → (PyData → Prop) → Prop
noncomputable def ROp (K : PySem.W.Frag) (r : R2) (rd : RD2) : Prop := ∀ (G H : Hp) (x y : V) (dx dy : PyData) (Qd : PyData → Prop) (Q : VK), DV K H x dx → DV K H y dy → rd dx dy Qd → (∀ v d, DV K G v d → Qd d → Q v H) → r x y H Q
noncomputable def dOp (rd : RD2) (da db : DE) (ex : DX) (δ : DEn) (Q : PyData → Prop) : Prop := da ex δ fun x => db ex δ fun y => rd x y Q
theorem ev_op {r : R2} {rd : RD2} (hr : ROp K r rd) (ha : BvD K H₀ E ta da) (hb : BvD K H₀ E tb db) : EvD K H₀ E (tOp r ta tb) (dOp rd da db) := fun ex δ σ G H Qd Q hx S q k =>
  ha ex δ σ G H _ _ hx S q fun x dx G1 H1 e1 h1 q1 => hb ex δ σ G1 H1 _ _ hx (S.ext e1) q1 fun y dy G2 H2 e2 h2 q2 =>
    hr G2 H2 x y dx dy Qd Q (dv_same e2.h h1) h2 q2 fun v d hv qd => k v d G2 H2 (e1.trans e2) hv qd
noncomputable def oI (C : Int → Int → Prop) (f : Int → Int → Int) (x y : PyData) (Q : PyData → Prop) : Prop := match x, y with
  | .int i, .int j => C i j ∧ Q (.int (f i j))
  | _, _ => False
noncomputable def oI0 (f : Int → Int → Int) (x y : PyData) (Q : PyData → Prop) : Prop := match x, y with
  | .int i, .int j => Q (.int (f i j))
  | _, _ => False
noncomputable def oB0 (f : Int → Int → Bool) (x y : PyData) (Q : PyData → Prop) : Prop := match x, y with
  | .int i, .int j => Q (.bool (f i j))
  | _, _ => False
theorem ro_i {C : Int → Int → Prop} {f : Int → Int → Int} : ROp K (rI C fun i j => .int (f i j)) (oI C f) := by
  intro G H x y dx dy Qd Q hx hy q k
  unfold oI at q
  split at q
  · cases dv_int hx; cases dv_int hy
    exact ⟨_, _, rfl, rfl, q.1, k _ _ (.int _) q.2⟩
  · exact q.elim
theorem ro_i0 {f : Int → Int → Int} : ROp K (rI0 fun i j => .int (f i j)) (oI0 f) := by
  intro G H x y dx dy Qd Q hx hy q k
  unfold oI0 at q
  split at q
  · cases dv_int hx; cases dv_int hy
    exact ⟨_, _, rfl, rfl, k _ _ (.int _) q⟩
  · exact q.elim
theorem ro_b0 {f : Int → Int → Bool} : ROp K (rI0 fun i j => .bl (f i j)) (oB0 f) := by
  intro G H x y dx dy Qd Q hx hy q k
  unfold oB0 at q
  split at q
  · cases dv_int hx; cases dv_int hy
    exact ⟨_, _, rfl, rfl, k _ _ (.bl _) q⟩
  · exact q.elim
noncomputable def oEq (x y : PyData) (Q : PyData → Prop) : Prop := match x, y with
  | .int i, .int j => Q (.bool (decide (i = j)))
  | .str i, .str j => Q (.bool (decide (i = j)))
  | .bool i, .bool j => Q (.bool (decide (i = j)))
  | _, _ => False
noncomputable def oNe (x y : PyData) (Q : PyData → Prop) : Prop := match x, y with
  | .int i, .int j => Q (.bool (!decide (i = j)))
  | .str i, .str j => Q (.bool (!decide (i = j)))
  | .bool i, .bool j => Q (.bool (!decide (i = j)))
  | _, _ => False
theorem ro_eq : ROp K rEq oEq := by
  intro G H x y dx dy Qd Q hx hy q k
  unfold oEq at q
  split at q
  · cases dv_int hx; cases dv_int hy
    refine ⟨rfl, k _ _ (.bl _) ?_⟩
    simpa using q
  · cases dv_str hx; cases dv_str hy
    refine ⟨rfl, k _ _ (.bl _) ?_⟩
    simpa using q
  · cases dv_bl hx; cases dv_bl hy
    refine ⟨rfl, k _ _ (.bl _) ?_⟩
    simpa using q
  · exact q.elim
theorem ro_ne : ROp K rNe oNe := by
  intro G H x y dx dy Qd Q hx hy q k
  unfold oNe at q
  split at q
  · cases dv_int hx; cases dv_int hy
    refine ⟨rfl, k _ _ (.bl _) ?_⟩
    simpa using q
  · cases dv_str hx; cases dv_str hy
    refine ⟨rfl, k _ _ (.bl _) ?_⟩
    simpa using q
  · cases dv_bl hx; cases dv_bl hy
    refine ⟨rfl, k _ _ (.bl _) ?_⟩
    simpa using q
  · exact q.elim
noncomputable def oEqD (x y : PyData) (Q : PyData → Prop) : Prop := ∃ (α : Type) (e : Enc α) (a b : α), x = e.d a ∧ y = e.d b ∧ ∀ k : Bool, (k = true ↔ a = b) → Q (.bool k)
noncomputable def oNeD (x y : PyData) (Q : PyData → Prop) : Prop := ∃ (α : Type) (e : Enc α) (a b : α), x = e.d a ∧ y = e.d b ∧ ∀ k : Bool, (k = true ↔ a = b) → Q (.bool !k)
theorem ro_eqD : ROp K (rEqD K false) oEqD := by
  rintro G H x y dx dy Qd Q hx hy ⟨α, e, a, b, rfl, rfl, q⟩ k
  exact ⟨α, e, a, b, hx, hy, fun c hc => k _ _ (.bl _) (q c hc)⟩
theorem ro_neD : ROp K (rEqD K true) oNeD := by
  rintro G H x y dx dy Qd Q hx hy ⟨α, e, a, b, rfl, rfl, q⟩ k
  exact ⟨α, e, a, b, hx, hy, fun c hc => k _ _ (.bl _) (q c hc)⟩
noncomputable def oInD (x y : PyData) (Q : PyData → Prop) : Prop := ∃ (α : Type) (e : Enc α) (a : α) (bs : List α), x = e.d a ∧ y = .list (bs.map e.d) ∧ ∀ k : Bool, (k = true ↔ a ∈ bs) → Q (.bool k)
theorem ro_inD : ROp K (rInD K false) oInD := by
  rintro G H x y dx dy Qd Q hx hy ⟨α, e, a, bs, rfl, rfl, q⟩ k
  exact ⟨α, e, a, bs, hx, hy, fun c hc => k _ _ (.bl _) (q c hc)⟩
noncomputable def oIsN (neg : Bool) (x y : PyData) (Q : PyData → Prop) : Prop := match y with
  | .none => (match x with
    | .none => Q (.bool (!neg))
    | _ => Q (.bool neg))
  | _ => False
theorem dv_isN {H : Hp} {x : V} {d : PyData} (h : DV K H x d) : (x = .non ↔ d = .none) := by
  cases h <;> simp
theorem ro_isN : ROp K (fun x y H Q => y = .non ∧ Q (.bl (decide (x = .non))) H) (oIsN false) := by
  intro G H x y dx dy Qd Q hx hy q k
  cases dy with
  | none =>
    refine ⟨dv_non hy, k _ _ (.bl _) ?_⟩
    cases dx with
    | none => rw [decide_eq_true (dv_non hx)]; exact q
    | _ => rw [decide_eq_false (fun z => by have := (dv_isN hx).mp z; cases this)]; exact q
  | _ => exact q.elim
noncomputable def dNeg (da : DE) (ex : DX) (δ : DEn) (Q : PyData → Prop) : Prop := da ex δ fun x => match x with
  | .int i => Q (.int (-i))
  | _ => False
theorem ev_neg (ha : BvD K H₀ E ta da) : EvD K H₀ E (tUn (rU fun i => .int (-i)) ta) (dNeg da) := fun ex δ σ G H Qd Q hx S q k =>
  ha ex δ σ G H _ _ hx S q fun x dx G1 H1 e1 h1 q1 => by
    cases dx with
    | int i =>
      cases dv_int h1
      exact ⟨_, rfl, k _ _ G1 H1 e1 (.int _) q1⟩
    | _ => exact q1.elim
theorem ev_k {v : Int} (h : EvD K H₀ E te de) (hk : ∀ ex δ Q, Q (.int v) → de ex δ Q) : EvD K H₀ E te (dC (.int v)) := fun ex δ σ G H Qd Q hx S q k => h ex δ σ G H Qd Q hx S (hk ex δ Qd q) k
noncomputable def dMap (f : Int → Int) (da : DE) (ex : DX) (δ : DEn) (Q : PyData → Prop) : Prop := da ex δ fun x => match x with
  | .int i => Q (.int (f i))
  | _ => False
theorem ev_dvk {k : Int} (hk : CDivB 0 k) (ha : BvD K H₀ E ta da) (hb : EvD K H₀ E tb (dC (.int k))) : EvD K H₀ E (tOp (rI CDivB fun i j => .int (i / j)) ta tb) (dMap (fun i => i / k) da) := fun ex δ σ G H Qd Q hx S q k' =>
  ha ex δ σ G H _ _ hx S q fun x dx G1 H1 e1 h1 q1 => hb ex δ σ G1 H1 (fun d => d = .int k) _ hx (S.ext e1) rfl fun y dy G2 H2 e2 h2 hy => by
    subst hy
    cases dv_int h2
    cases dx with
    | int i => cases dv_int h1; exact ⟨_, _, rfl, rfl, hk, k' _ _ G2 H2 (e1.trans e2) (.int _) q1⟩
    | _ => exact q1.elim
theorem ev_mdk {k : Int} (hk : 0 < k) (ha : BvD K H₀ E ta da) (hb : EvD K H₀ E tb (dC (.int k))) : EvD K H₀ E (tOp (rI (fun _ j => 0 < j) fun i j => .int (i % j)) ta tb) (dMap (fun i => i % k) da) := fun ex δ σ G H Qd Q hx S q k' =>
  ha ex δ σ G H _ _ hx S q fun x dx G1 H1 e1 h1 q1 => hb ex δ σ G1 H1 (fun d => d = .int k) _ hx (S.ext e1) rfl fun y dy G2 H2 e2 h2 hy => by
    subst hy
    cases dv_int h2
    cases dx with
    | int i => cases dv_int h1; exact ⟨_, _, rfl, rfl, hk, k' _ _ G2 H2 (e1.trans e2) (.int _) q1⟩
    | _ => exact q1.elim
noncomputable def dIxL (dl : DL) (db : DE) (ex : DX) (δ : DEn) (Q : PyData → Prop) : Prop := dl ex δ fun ds => db ex δ fun y => match y with
  | .int i => ∃ d, atI ds i = some d ∧ Q d
  | _ => False
theorem dvs_atI {G : Hp} {vs : List V} {ds : List PyData} {i : Int} {d : PyData} (h : DVs K G vs ds) (e : atI ds i = some d) : ∃ v, atI vs i = some v ∧ DV K G v d := by
  unfold atI at e ⊢
  rw [h.len]
  cases q : ixN ds.length i with
  | none => rw [q] at e; cases e
  | some j =>
    rw [q] at e
    exact h.at e
theorem ev_ixl (ha : LvD K H₀ E ta dl) (hb : BvD K H₀ E tb db) : EvD K H₀ E (tOp (rIxL K) ta tb) (dIxL dl db) := fun ex δ σ G H Qd Q hx S q k =>
  ha ex δ σ G H _ _ hx S q fun a vs ds G1 H1 e1 h1 h2 q1 => hb ex δ σ G1 H1 _ _ hx (S.ext e1) q1 fun y dy G2 H2 e2 h3 q2 => by
    cases dy with
    | int i =>
      obtain ⟨d, z, q2⟩ := q2
      cases dv_int h3
      obtain ⟨v, z1, z2⟩ := dvs_atI h2 z
      exact ⟨a, vs, i, v, rfl, rfl, e2.h.seq h1, z1, k v d G2 H2 (e1.trans e2) (dv_same e2.g z2) q2⟩
    | _ => exact q2.elim
noncomputable def nth : List PyData → Nat → Option PyData
  | [], _ => none
  | d :: _, 0 => some d
  | _ :: ds, n + 1 => nth ds n
theorem nth_at : ∀ {ds : List PyData} {k : Nat} {d : PyData}, nth ds k = some d → ds[k]? = some d
  | [], _, _, h => by cases h
  | d :: _, 0, _, h => by simpa [nth] using h
  | _ :: ds, k + 1, d, h => by simpa using nth_at (ds := ds) (k := k) (d := d) h
noncomputable def dIxK (k : Nat) (da : DE) (ex : DX) (δ : DEn) (Q : PyData → Prop) : Prop := da ex δ fun x => match x with
  | .tuple ds => (match nth ds k with
    | some d => Q d
    | none => False)
  | _ => False
theorem ev_ixk (m : Nat) (ha : EvD K H₀ E ta da) : EvD K H₀ E (tOp (rIxT K) ta (tC (.int (m : Int)))) (dIxK m da) := fun ex δ σ G H Qd Q hx S q k =>
  ha ex δ σ G H _ _ hx S q fun x dx G1 H1 e1 h1 q1 => by
    cases dx with
    | tuple ds =>
      dsimp only at q1
      split at q1
      · rename_i d z
        obtain ⟨a, vs, rfl, h2, h3⟩ := dv_tuple h1
        obtain ⟨v, z1, z2⟩ := dvs_atI h3 (atI_nat (nth_at z))
        exact ⟨a, vs, _, v, rfl, rfl, sqT_same e1.s.same h2, z1, k v _ G1 H1 e1 z2 q1⟩
      · exact q1.elim
    | _ => exact q1.elim
noncomputable abbrev RDc := List PyData → (PyData → Prop) → Prop
noncomputable def RCb (K : PySem.W.Frag) (r : List V → Hp → VK → Prop) (rd : RDc) : Prop := ∀ (G H : Hp) (xs : List V) (ds : List PyData) (Qd : PyData → Prop) (Q : VK), DVs K H xs ds → rd ds Qd → (∀ v d, DV K G v d → Qd d → Q v H) → r xs H Q
noncomputable def dCb (rd : RDc) (dl : DL) (ex : DX) (δ : DEn) (Q : PyData → Prop) : Prop := dl ex δ fun ds => rd ds Q
theorem ev_cb {r : List V → Hp → VK → Prop} {rd : RDc} (hr : RCb K r rd) (ha : AvD K H₀ E t dl) : EvD K H₀ E (tCB r t) (dCb rd dl) := fun ex δ σ G H Qd Q hx S q k =>
  ha ex δ σ G H _ _ hx S q fun vs ds G1 H1 e1 h1 q1 => hr G1 H1 vs ds Qd Q h1 q1 fun v d hv qd => k v d G1 H1 e1 hv qd
noncomputable def bAbs (ds : List PyData) (Q : PyData → Prop) : Prop := match ds with
  | [.int i] => Q (.int (if i < 0 then -i else i))
  | _ => False
noncomputable def bMin (ds : List PyData) (Q : PyData → Prop) : Prop := match ds with
  | [.int i, .int j] => Q (.int (if j < i then j else i))
  | _ => False
noncomputable def bMax (ds : List PyData) (Q : PyData → Prop) : Prop := match ds with
  | [.int i, .int j] => Q (.int (if j > i then j else i))
  | _ => False
noncomputable def bLen (ds : List PyData) (Q : PyData → Prop) : Prop := match ds with
  | [.list xs] => Q (.int xs.length)
  | [.tuple xs] => Q (.int xs.length)
  | _ => False
theorem dvs1 {H : Hp} {xs : List V} {d : PyData} (h : DVs K H xs [d]) : ∃ x, xs = [x] ∧ DV K H x d := by
  cases h with
  | cons h t => cases t; exact ⟨_, rfl, h⟩
theorem dvs2 {H : Hp} {xs : List V} {d e : PyData} (h : DVs K H xs [d, e]) : ∃ x y, xs = [x, y] ∧ DV K H x d ∧ DV K H y e := by
  cases h with
  | cons h t => cases t with
    | cons h2 t => cases t; exact ⟨_, _, rfl, h, h2⟩
theorem rb_abs : RCb K (fun xs H Q => ∃ i, xs = [.int i] ∧ Q (.int (if i < 0 then -i else i)) H) bAbs := by
  intro G H xs ds Qd Q h q k
  unfold bAbs at q
  split at q
  · obtain ⟨x, rfl, hx⟩ := dvs1 h
    cases dv_int hx
    exact ⟨_, rfl, k _ _ (.int _) q⟩
  · exact q.elim
theorem rb_min : RCb K (fun xs H Q => ∃ i j, xs = [.int i, .int j] ∧ Q (.int (if j < i then j else i)) H) bMin := by
  intro G H xs ds Qd Q h q k
  unfold bMin at q
  split at q
  · obtain ⟨x, y, rfl, hx, hy⟩ := dvs2 h
    cases dv_int hx; cases dv_int hy
    exact ⟨_, _, rfl, k _ _ (.int _) q⟩
  · exact q.elim
theorem rb_max : RCb K (fun xs H Q => ∃ i j, xs = [.int i, .int j] ∧ Q (.int (if j > i then j else i)) H) bMax := by
  intro G H xs ds Qd Q h q k
  unfold bMax at q
  split at q
  · obtain ⟨x, y, rfl, hx, hy⟩ := dvs2 h
    cases dv_int hx; cases dv_int hy
    exact ⟨_, _, rfl, k _ _ (.int _) q⟩
  · exact q.elim
theorem rb_len : RCb K (fun xs H Q => ∃ p ys, xs = [.ref p] ∧ (SqL K H p ys ∨ SqT K H p ys) ∧ Q (.int ys.length) H) bLen := by
  intro G H xs ds Qd Q h q k
  unfold bLen at q
  split at q
  · obtain ⟨x, rfl, hx⟩ := dvs1 h
    obtain ⟨a, vs, rfl, h1, h2⟩ := dv_list hx
    exact ⟨a, vs, rfl, .inl h1, k _ _ (.int _) (by rw [h2.len]; exact q)⟩
  · obtain ⟨x, rfl, hx⟩ := dvs1 h
    obtain ⟨a, vs, rfl, h1, h2⟩ := dv_tuple hx
    exact ⟨a, vs, rfl, .inr h1, k _ _ (.int _) (by rw [h2.len]; exact q)⟩
  · exact q.elim
noncomputable def dListOf (dl : DL) (ex : DX) (δ : DEn) (Q : List PyData → Prop) : Prop := dl ex δ Q
theorem ov_list {te : TE} (ha : LvD K H₀ E te dl) : OvD K H₀ E (tCB (fun xs H Q => ∃ p ys, xs = [.ref p] ∧ (SqL K H p ys ∨ SqT K H p ys) ∧ ∀ l, H l = none → Q (.ref l) (upd H l (.lst ys))) (tCons te tNil)) (dListOf dl) := fun ex δ σ G H Qd Q hx S q k =>
  ha ex δ σ G H _ _ hx S q fun a vs ds G1 H1 e1 h1 h2 q1 => ⟨a, vs, rfl, .inl h1, fun p hp => by
    obtain ⟨e2, hg⟩ := ext_newL (xs := vs) e1.s hp
    exact k p vs ds _ _ (e1.trans e2) (e1.h.free hp) hg upd_same h2 q1⟩
noncomputable def tyD : PyData → String
  | .none => "NoneType"
  | .bool _ => "bool"
  | .int _ => "int"
  | .str _ => "str"
  | .list _ => "list"
  | .tuple _ => "tuple"
  | .dict _ => "dict"
noncomputable def isD (n : String) (d : PyData) : Bool := tyD d == n || (n == "int" && tyD d == "bool")
noncomputable abbrev DO := DX → DEn → (Option Int → Prop) → Prop
noncomputable def OvP (K : PySem.W.Frag) (H₀ : Hp) (E : XK) (to : TO) (d : DO) : Prop := ∀ ex δ σ G H Qd Q, ExOk H₀ E ex → Sees K H₀ G δ σ H → d ex δ Qd → (∀ o G' H', Ext G H G' H' → Qd o → Q o H') → to σ H Q
noncomputable def dNoP (_ex : DX) (_δ : DEn) (Q : Option Int → Prop) : Prop := Q none
noncomputable def dPart (de : DE) (ex : DX) (δ : DEn) (Q : Option Int → Prop) : Prop := de ex δ fun x => match x with
  | .int i => Q (some i)
  | _ => False
theorem op_no : OvP K H₀ E tNoPart dNoP := fun ex δ σ G H Qd Q hx S q k => k none G H S.refl q
theorem op_part (h : BvD K H₀ E te de) : OvP K H₀ E (tPart te) (dPart de) := fun ex δ σ G H Qd Q hx S q k =>
  h ex δ σ G H _ _ hx S q fun x dx G1 H1 e1 h1 q1 => by
    cases dx with
    | int i =>
      cases dv_int h1
      exact ⟨_, rfl, k _ G1 H1 e1 q1⟩
    | _ => exact q1.elim
noncomputable def cutL {α : Type} (xs : List α) (lo hi : Option Int) : List α := (xs.drop (HT.sIx xs.length 0 lo)).take (HT.sIx xs.length xs.length hi - HT.sIx xs.length 0 lo)
theorem cutL_map {α β : Type} (f : α → β) (xs : List α) (lo hi : Option Int) : cutL (xs.map f) lo hi = (cutL xs lo hi).map f := by
  unfold cutL
  rw [List.length_map, List.map_take, List.map_drop]
theorem cutL_hi {α : Type} (xs : List α) (k : Nat) : cutL xs none (some (k : Int)) = xs.take k := by
  unfold cutL
  rw [HT.sIx_none, List.drop_zero, Nat.sub_zero, HT.sIx_nat, List.take_eq_take_iff.mpr]
  omega
noncomputable def dSl (dl : DL) (d1 d2 : DO) (ex : DX) (δ : DEn) (Q : List PyData → Prop) : Prop := dl ex δ fun ds => d1 ex δ fun lo => d2 ex δ fun hi => Q (cutL ds lo hi)
theorem dvs_cut {G : Hp} {vs : List V} {ds : List PyData} {lo hi : Option Int} (h : DVs K G vs ds) : DVs K G (cutV vs lo hi) (cutL ds lo hi) := by
  unfold cutV cutL
  rw [h.len]
  exact (h.drop _).take _
theorem ov_sl {t1 t2 : TO} {d1 d2 : DO} (ha : LvD K H₀ E te dl) (h1 : OvP K H₀ E t1 d1) (h2 : OvP K H₀ E t2 d2) : OvD K H₀ E (tSl (rSlL K) te t1 t2) (dSl dl d1 d2) := fun ex δ σ G H Qd Q hx S q k =>
  ha ex δ σ G H _ _ hx S q fun a vs ds G1 H1 e1 g1 g2 q1 => h1 ex δ σ G1 H1 _ _ hx (S.ext e1) q1 fun lo G2 H2 e2 q2 => h2 ex δ σ G2 H2 _ _ hx (S.ext (e1.trans e2)) q2 fun hi G3 H3 e3 q3 =>
    ⟨a, vs, rfl, (e2.trans e3).h.seq g1, fun p hp => by
      obtain ⟨e4, hg⟩ := ext_newL (xs := cutV vs lo hi) e3.s hp
      have e0 := e1.trans (e2.trans e3)
      exact k p _ _ _ _ (e0.trans e4) (e0.h.free hp) hg upd_same (dvs_same (e2.trans e3).g (dvs_cut g2)) q3⟩
noncomputable def dAsB (de : DE) (ex : DX) (δ : DEn) (Q : Bool → Prop) : Prop := de ex δ fun x => match x with
  | .bool b => Q b
  | _ => False
theorem tv_b (h : BvD K H₀ E te de) : TvD K H₀ E (tB te) (dAsB de) := fun ex δ σ G H Qd Q hx S q k =>
  h ex δ σ G H _ _ hx S q fun x dx G1 H1 e1 h1 q1 => by
    cases dx with
    | bool i =>
      cases dv_bl h1
      exact ⟨_, rfl, k _ G1 H1 e1 q1⟩
    | _ => exact q1.elim
theorem tv_test (h : BvD K H₀ E te de) : TvD K H₀ E (tTest te) (dAsB de) := fun ex δ σ G H Qd Q hx S q k =>
  h ex δ σ G H _ _ hx S q fun x dx G1 H1 e1 h1 q1 => by
    cases dx with
    | bool i =>
      cases dv_bl h1
      exact ⟨_, rfl, k _ G1 H1 e1 q1⟩
    | _ => exact q1.elim
noncomputable def dAnd (dt du : DT) (ex : DX) (δ : DEn) (Q : Bool → Prop) : Prop := dt ex δ fun b => if b = true then du ex δ Q else Q false
noncomputable def dOr (dt du : DT) (ex : DX) (δ : DEn) (Q : Bool → Prop) : Prop := dt ex δ fun b => if b = true then Q true else du ex δ Q
noncomputable def dNot (dt : DT) (ex : DX) (δ : DEn) (Q : Bool → Prop) : Prop := dt ex δ fun b => Q (!b)
theorem tv_and (h1 : TvD K H₀ E tt dt) (h2 : TvD K H₀ E tu du) : TvD K H₀ E (tAnd tt tu) (dAnd dt du) := fun ex δ σ G H Qd Q hx S q k =>
  h1 ex δ σ G H _ _ hx S q fun b G1 H1 e1 q1 => by
    cases b with
    | true => exact h2 ex δ σ G1 H1 _ _ hx (S.ext e1) q1 fun c G2 H2 e2 q2 => k c G2 H2 (e1.trans e2) q2
    | false => exact k false G1 H1 e1 q1
theorem tv_or (h1 : TvD K H₀ E tt dt) (h2 : TvD K H₀ E tu du) : TvD K H₀ E (tOr tt tu) (dOr dt du) := fun ex δ σ G H Qd Q hx S q k =>
  h1 ex δ σ G H _ _ hx S q fun b G1 H1 e1 q1 => by
    cases b with
    | false => exact h2 ex δ σ G1 H1 _ _ hx (S.ext e1) q1 fun c G2 H2 e2 q2 => k c G2 H2 (e1.trans e2) q2
    | true => exact k true G1 H1 e1 q1
theorem tv_not (h1 : TvD K H₀ E tt dt) : TvD K H₀ E (tNot tt) (dNot dt) := fun ex δ σ G H Qd Q hx S q k =>
  h1 ex δ σ G H _ _ hx S q fun b G1 H1 e1 q1 => k _ G1 H1 e1 q1
noncomputable def dIfE (dt : DT) (da db : DE) (ex : DX) (δ : DEn) (Q : PyData → Prop) : Prop := dt ex δ fun b => if b = true then da ex δ Q else db ex δ Q
theorem ev_if (ht : TvD K H₀ E tt dt) (ha : EvD K H₀ E ta da) (hb : EvD K H₀ E tb db) : EvD K H₀ E (tIf tt ta tb) (dIfE dt da db) := fun ex δ σ G H Qd Q hx S q k =>
  ht ex δ σ G H _ _ hx S q fun b G1 H1 e1 q1 => by
    cases b with
    | true => exact ha ex δ σ G1 H1 _ _ hx (S.ext e1) q1 fun v d G2 H2 e2 hd q2 => k v d G2 H2 (e1.trans e2) hd q2
    | false => exact hb ex δ σ G1 H1 _ _ hx (S.ext e1) q1 fun v d G2 H2 e2 hd q2 => k v d G2 H2 (e1.trans e2) hd q2
noncomputable abbrev DW := List PyData → (Sl → Prop) → DX → Prop
noncomputable def rm (H : Hp) (a : Addr) : Hp := fun b => if b = a then none else H b
noncomputable def RetIs (K : PySem.W.Frag) (H H' : Hp) (v : V) : Sl → Prop
  | .dat d => DV K H' v d
  | .own ds => ∃ a vs, v = .ref a ∧ H a = none ∧ H' a = some (.lst vs) ∧ DVs K (rm H' a) vs ds
  | .exc _ => False
  | .fz as d => (∀ c ∈ as, H c = none) ∧ 3 ≤ as.length ∧ FzIs K H' v as d
  | .two xs ys => ∃ t a b vs ws, v = .ref t ∧ SqT K H' t [.ref a, .ref b] ∧ a ≠ b ∧ H a = none ∧ H b = none ∧ H' a = some (.lst vs) ∧ H' b = some (.lst ws) ∧ DVs K (rm (rm H' a) b) vs xs ∧ DVs K (rm (rm H' a) b) ws ys
noncomputable def spW (K : PySem.W.Frag) (w : DW) : Sp := fun vs H Q E => ∃ ds Qd Ed, DVs K H vs ds ∧ w ds Qd Ed ∧ (∀ v s H', Same H H' → RetIs K H H' v s → Qd s → Q v H') ∧ (∀ C H', Same H H' → Ed C → E (.ref C) none H')
noncomputable def grow (G H H' : Hp) : Hp := fun b => match H b with
  | none => H' b
  | some _ => G b
theorem ext_grow {G H H' : Hp} (s : Sub G H) (h : Same H H') : Ext G H (grow G H H') H' := by
  refine ⟨fun b o z => ?_, h, fun b => ?_, fun b o z => ?_⟩
  · unfold grow
    rw [s.same b o z]
    exact z
  · unfold grow
    cases q : H b with
    | none => exact .inl rfl
    | some o =>
      dsimp only
      rw [h b o q]
      have := s b
      rw [q] at this
      exact this
  · unfold grow at z
    cases q : H b with
    | none => exact .inr rfl
    | some u => rw [q] at z; exact .inl z
theorem grow_flat {G H H' : Hp} (s : Sub G H) (h : Same H H') : ∀ b o, H' b = some o → (∀ xs, o ≠ .lst xs) → grow G H H' b = some o := fun b o e n => by
  unfold grow
  cases q : H b with
  | none => exact e
  | some u =>
    dsimp only
    have := h b u q
    rw [e] at this
    cases this
    exact s.other q n
noncomputable def flatS : (PyData → Prop) → Sl → Prop
  | Q, .dat d => flatD d = true ∧ Q d
  | Q, .own ds => flatDs ds = true ∧ Q (.list ds)
  | _, .exc _ => False
  | _, .fz _ _ => False
  | _, .two _ _ => False
noncomputable def ownS : (List PyData → Prop) → Sl → Prop
  | _, .dat _ => False
  | Q, .own ds => flatDs ds = true ∧ Q ds
  | _, .exc _ => False
  | _, .fz _ _ => False
  | _, .two _ _ => False
noncomputable def dCall (w : DW) (dl : DL) (ex : DX) (δ : DEn) (Q : PyData → Prop) : Prop := dl ex δ fun ds => w ds (flatS Q) ex
noncomputable def dCall0 (w : DW) (dl : DL) (ex : DX) (δ : DEn) (Q : PyData → Prop) : Prop := dl ex δ fun ds => w ds (flatS Q) fun _ => False
noncomputable def dCallO0 (w : DW) (dl : DL) (ex : DX) (δ : DEn) (Q : List PyData → Prop) : Prop := dl ex δ fun ds => w ds (ownS Q) fun _ => False
theorem exok0 {H₀ : Hp} {E : XK} : ExOk H₀ E fun _ => False := fun _ _ _ z => z.elim
theorem ret_flat {G H H' : Hp} {v : V} {s : Sl} {Q : PyData → Prop} (hs : Sub G H) (h : Same H H') (r : RetIs K H H' v s) (q : flatS Q s) : ∃ d G', Ext G H G' H' ∧ DV K G' v d ∧ Q d := by
  cases s with
  | exc C => exact r.elim
  | fz _ _ => exact q.elim
  | two xs ys => exact q.elim
  | dat d => exact ⟨d, _, ext_grow hs h, dv_flat (grow_flat hs h) r q.1, q.2⟩
  | own ds =>
    obtain ⟨a, vs, rfl, hn, hh, hd⟩ := r
    have hd1 : DVs K H' vs ds := dvs_same (fun b o z => by
      unfold rm at z
      split at z
      · cases z
      · exact z) hd
    refine ⟨.list ds, _, ext_grow hs h, .lst (SqL.of ?_) (dvs_flat (grow_flat hs h) hd1 q.1), q.2⟩
    unfold grow
    rw [hn]
    exact hh
theorem ret_own {G H H' : Hp} {v : V} {s : Sl} {Q : List PyData → Prop} (hs : Sub G H) (h : Same H H') (r : RetIs K H H' v s) (q : ownS Q s) :
    ∃ a vs ds G', v = .ref a ∧ Ext G H G' H' ∧ H a = none ∧ G' a = none ∧ H' a = some (.lst vs) ∧ DVs K G' vs ds ∧ Q ds := by
  cases s with
  | exc C => exact r.elim
  | fz _ _ => exact q.elim
  | two xs ys => exact q.elim
  | dat d => exact q.elim
  | own ds =>
    obtain ⟨a, vs, rfl, hn, hh, hd⟩ := r
    have e := ext_grow hs h
    have hg : G a = none := hs.same.free hn
    refine ⟨a, vs, ds, rm (grow G H H') a, rfl, ⟨fun b o z => ?_, h, fun b => ?_, fun b o z => ?_⟩, hn, by unfold rm; rw [if_pos rfl], hh, dvs_flat (fun b o z n => ?_) hd q.1, q.2⟩
    · unfold rm
      rw [if_neg (ne_of_none z hg)]
      exact e.g b o z
    · unfold rm
      split
      · rename_i z; subst z
        exact .inr ⟨rfl, vs, hh⟩
      · exact e.s b
    · unfold rm at z
      split at z
      · cases z
      · exact e.n b o z
    · unfold rm at z ⊢
      split at z
      · cases z
      · rename_i hb
        rw [if_neg hb]
        exact grow_flat hs h b o z n
section
variable {w : DW}
theorem call_use {E' : XK} {ex : DX} {δ : DEn} {σ : L2.St} {G H : Hp} {Q : VK} {QS : Sl → Prop} (ha : AvD K H₀ E t dl) (hx : ExOk H₀ E ex) (hx' : ∀ ex', ex' = ex ∨ ex' = (fun _ => False) → ExOk H₀ E' ex' ∨ True) (S : Sees K H₀ G δ σ H) (ex' : DX) (he : ExOk H₀ E' ex')
    (q : dl ex δ fun ds => w ds QS ex') (k : ∀ v s G1 H1 H2, Ext G H G1 H1 → Same H1 H2 → RetIs K H1 H2 v s → QS s → Q v H2) : tCall (spW K w) [] E' t σ H Q :=
  ha ex δ σ G H _ _ hx S q fun vs ds G1 H1 e1 h1 q1 => by
    refine ⟨ds, QS, ex', by rw [List.append_nil]; exact h1, q1, fun v s H2 sm r qs => k v s G1 H1 H2 e1 sm r qs, fun C H2 sm hc => he C H2 ((S.ext e1).oldH.trans sm) hc⟩
theorem ev_call (ha : AvD K H₀ E t dl) : EvD K H₀ E (tCall (spW K w) [] E t) (dCall w dl) := fun ex δ σ G H Qd Q hx S q k =>
  call_use ha hx (fun _ _ => .inr trivial) S ex hx q fun v s G1 H1 H2 e1 sm r qs => by
    obtain ⟨d, G', e2, hd, q2⟩ := ret_flat e1.s sm r qs
    exact k v d G' H2 (e1.trans e2) hd q2
theorem ev_call0 (ha : AvD K H₀ E t dl) : EvD K H₀ E (tCall (spW K w) [] E0 t) (dCall0 w dl) := fun ex δ σ G H Qd Q hx S q k =>
  call_use ha hx (fun _ _ => .inr trivial) S (fun _ => False) exok0 q fun v s G1 H1 H2 e1 sm r qs => by
    obtain ⟨d, G', e2, hd, q2⟩ := ret_flat e1.s sm r qs
    exact k v d G' H2 (e1.trans e2) hd q2
theorem ov_call0 (ha : AvD K H₀ E t dl) : OvD K H₀ E (tCall (spW K w) [] E0 t) (dCallO0 w dl) := fun ex δ σ G H Qd Q hx S q k =>
  call_use ha hx (fun _ _ => .inr trivial) S (fun _ => False) exok0 q fun v s G1 H1 H2 e1 sm r qs => by
    obtain ⟨a, vs, ds, G', rfl, e2, hn, hg, hh, hd, q2⟩ := ret_own e1.s sm r qs
    exact k a vs ds G' H2 (e1.trans e2) (e1.h.free hn) hg hh hd q2
end
end
structure DEnds where
  nx : DEn → Prop
  rt : Sl → Prop
  ex : DX
  bk : DEn → Prop := fun _ => False
  ct : DEn → Prop := fun _ => False
noncomputable abbrev DS := DEnds → DEn → Prop
structure Lk (K : PySem.W.Frag) (H₀ G : Hp) (e : DEnds) (D : Ends) : Prop where
  nx : ∀ δ σ G' H, Same G G' → Sees K H₀ G' δ σ H → e.nx δ → D.nx σ H
  rt : ∀ v s H, Same H₀ H → RetIs K H₀ H v s → e.rt s → D.rt v H
  bk : ∀ δ σ G' H, Same G G' → Sees K H₀ G' δ σ H → e.bk δ → D.bk σ H
  ct : ∀ δ σ G' H, Same G G' → Sees K H₀ G' δ σ H → e.ct δ → D.ct σ H
theorem Lk.mono {K : PySem.W.Frag} {H₀ G G1 : Hp} {e : DEnds} {D : Ends} (L : Lk K H₀ G e D) (s : Same G G1) : Lk K H₀ G1 e D :=
  ⟨fun δ σ G' H t => L.nx δ σ G' H (s.trans t), L.rt, fun δ σ G' H t => L.bk δ σ G' H (s.trans t), fun δ σ G' H t => L.ct δ σ G' H (s.trans t)⟩
noncomputable def SvD (K : PySem.W.Frag) (H₀ : Hp) (E : XK) (ts : TS) (ds : DS) : Prop := ∀ δ σ G H e D, ExOk H₀ E e.ex → Sees K H₀ G δ σ H → ds e δ → Lk K H₀ G e D → ts D σ H
noncomputable abbrev DG := PyData → DEn → (DEn → Prop) → Prop
noncomputable abbrev DGs := List PyData → DEn → (DEn → Prop) → Prop
noncomputable def Kp (ns : List Nat) (σ σ' : L2.St) : Prop := σ'.length = σ.length ∧ ∀ j, j ∉ ns → σ'[j]? = σ[j]?
noncomputable def GvD (K : PySem.W.Frag) (H₀ : Hp) (g : TG) (ns : List Nat) (dg : DG) : Prop := ∀ v d δ σ G H Qd Q, Sees K H₀ G δ σ H → DV K G v d → dg d δ Qd → (∀ δ' σ', Sees K H₀ G δ' σ' H → Kp ns σ σ' → Qd δ' → Q σ' H) → g v σ H Q
noncomputable def GsvD (K : PySem.W.Frag) (H₀ : Hp) (g : TGs) (ns : List Nat) (dg : DGs) : Prop := ∀ vs ds δ σ G H Qd Q, Sees K H₀ G δ σ H → DVs K G vs ds → dg ds δ Qd → (∀ δ' σ', Sees K H₀ G δ' σ' H → Kp ns σ σ' → Qd δ' → Q σ' H) → g vs σ H Q
section
variable {K : PySem.W.Frag} {H₀ : Hp} {E : XK} {te ta tb : TE} {da db de : DE} {dl dk : DL} {t : TA} {tt tu : TT} {dt du : DT} {ts tz : TS} {ds dz : DS} {g : TG} {dg : DG} {gs : TGs} {dgs : DGs} {ns ms : List Nat}
noncomputable def dNext (e : DEnds) (δ : DEn) : Prop := e.nx δ
noncomputable def dSeq (d1 d2 : DS) (e : DEnds) (δ : DEn) : Prop := d1 { e with nx := d2 e } δ
noncomputable def dCut (d1 d2 : DS) (e : DEnds) (δ : DEn) : Prop := ∃ I : DEn → Prop, d1 { e with nx := I } δ ∧ ∀ δ', I δ' → d2 e δ'
theorem sv_next : SvD K H₀ E tNext dNext := fun δ σ G H e D hx S q L => L.nx δ σ G H (Same.refl _) S q
theorem sv_seq (h1 : SvD K H₀ E ts ds) (h2 : SvD K H₀ E tz dz) : SvD K H₀ E (tSeq ts tz) (dSeq ds dz) := fun δ σ G H e D hx S q L =>
  h1 δ σ G H { e with nx := dz e } { D with nx := tz D } hx S q ⟨fun δ' σ' G' H' s S' q' => h2 δ' σ' G' H' e D hx S' q' (L.mono s), L.rt, L.bk, L.ct⟩
theorem sv_cut (h1 : SvD K H₀ E ts ds) (h2 : SvD K H₀ E tz dz) : SvD K H₀ E (tSeq ts tz) (dCut ds dz) := fun δ σ G H e D hx S ⟨I, q, qi⟩ L =>
  h1 δ σ G H { e with nx := I } { D with nx := tz D } hx S q ⟨fun δ' σ' G' H' s S' q' => h2 δ' σ' G' H' e D hx S' (qi δ' q') (L.mono s), L.rt, L.bk, L.ct⟩
noncomputable def dRet (de : DE) (e : DEnds) (δ : DEn) : Prop := de e.ex δ fun d => e.rt (.dat d)
noncomputable def dRetO (dl : DL) (e : DEnds) (δ : DEn) : Prop := dl e.ex δ fun ds => e.rt (.own ds)
noncomputable def dRetV (i : Nat) (e : DEnds) (δ : DEn) : Prop := match slot δ i with
  | some (.dat d) => e.rt (.dat d)
  | some (.own ds) => e.rt (.own ds)
  | _ => False
theorem ret_of_own {G H : Hp} {a : Addr} {vs : List V} {ds : List PyData} (h0 : H₀ a = none) (hg : G a = none) (s : Sub G H) (hh : H a = some (.lst vs)) (hd : DVs K G vs ds) : RetIs K H₀ H (.ref a) (.own ds) :=
  ⟨a, vs, rfl, h0, hh, dvs_same (fun b o z => by
    unfold rm
    rw [if_neg (ne_of_none z hg)]
    exact s.same b o z) hd⟩
theorem sv_ret (h : BvD K H₀ E te de) : SvD K H₀ E (tRet te) (dRet de) := fun δ σ G H e D hx S q L =>
  h e.ex δ σ G H _ _ hx S q fun v d G' H' x hd qd => L.rt v (.dat d) H' (S.ext x).oldH hd qd
theorem sv_retO (h : OvD K H₀ E te dl) : SvD K H₀ E (tRet te) (dRetO dl) := fun δ σ G H e D hx S q L =>
  h e.ex δ σ G H _ _ hx S q fun a vs ds G' H' x hn hg hh hd qd => L.rt (.ref a) (.own ds) H' (S.ext x).oldH (ret_of_own (S.oldH.free hn) hg x.s hh hd) qd
theorem sv_retV (i : Nat) : SvD K H₀ E (tRet (tVar i)) (dRetV i) := fun δ σ G H e D hx S q L => by
  unfold dRetV at q
  split at q
  · rename_i d hs
    obtain ⟨v, h1, h2⟩ := S.has i _ hs
    exact ⟨v, h1, L.rt v (.dat d) H S.oldH (dv_same S.sub.same h2) q⟩
  · rename_i ds hs
    obtain ⟨v, h1, h2⟩ := S.has i _ hs
    obtain ⟨a, vs, rfl, h3, h4, h5⟩ := h2
    exact ⟨_, h1, L.rt _ (.own ds) H S.oldH (ret_of_own (S.old.free h3) h3 S.sub h4 h5) q⟩
  · exact q.elim
noncomputable def dDrop (de : DE) (e : DEnds) (δ : DEn) : Prop := de e.ex δ fun _ => e.nx δ
theorem sv_expr (h : BvD K H₀ E te de) : SvD K H₀ E (tDrop te) (dDrop de) := fun δ σ G H e D hx S q L =>
  h e.ex δ σ G H _ _ hx S q fun v d G' H' x hd qd => L.nx δ σ G' H' x.g (S.ext x) qd
noncomputable def dIfS (dt : DT) (d1 d2 : DS) (e : DEnds) (δ : DEn) : Prop := dt e.ex δ fun b => if b = true then d1 e δ else d2 e δ
theorem sv_if (h : TvD K H₀ E tt dt) (h1 : SvD K H₀ E ts ds) (h2 : SvD K H₀ E tz dz) : SvD K H₀ E (tIfS tt ts tz) (dIfS dt ds dz) := fun δ σ G H e D hx S q L =>
  h e.ex δ σ G H _ _ hx S q fun b G' H' x qb => by
    cases b with
    | true => exact h1 δ σ G' H' e D hx (S.ext x) qb (L.mono x.g)
    | false => exact h2 δ σ G' H' e D hx (S.ext x) qb (L.mono x.g)
noncomputable def gvName (i : Nat) (d : PyData) (δ : DEn) (Q : DEn → Prop) : Prop := Q (put (some (.dat d)) i δ)
noncomputable def gvNil (ds : List PyData) (δ : DEn) (Q : DEn → Prop) : Prop := match ds with
  | [] => Q δ
  | _ => False
noncomputable def gvCons (dg : DG) (dgs : DGs) (ds : List PyData) (δ : DEn) (Q : DEn → Prop) : Prop := match ds with
  | d :: r => dg d δ fun δ' => dgs r δ' Q
  | [] => False
noncomputable def gvTup (n : Nat) (dgs : DGs) (d : PyData) (δ : DEn) (Q : DEn → Prop) : Prop := match d with
  | .tuple ds => ds.length = n ∧ dgs ds δ Q
  | _ => False
theorem gv_name (i : Nat) : GvD K H₀ (gName i) [i] (gvName i) := fun v d δ σ G H Qd Q S hd q k =>
  k _ _ (S.setD i hd) ⟨List.length_set, fun j hj => by rw [List.getElem?_set_ne (fun z => hj (by simp [z]))]⟩ q
theorem gs_nil : GsvD K H₀ gNil [] gvNil := fun vs ds δ σ G H Qd Q S hd q k => by
  unfold gvNil at q
  split at q
  · cases hd
    exact ⟨rfl, k δ σ S ⟨rfl, fun _ _ => rfl⟩ q⟩
  · exact q.elim
theorem gs_cons (h1 : GvD K H₀ g ns dg) (h2 : GsvD K H₀ gs ms dgs) : GsvD K H₀ (gCons g gs) (ns ++ ms) (gvCons dg dgs) := fun vs ds δ σ G H Qd Q S hd q k => by
  unfold gvCons at q
  split at q
  · cases hd with
    | cons hd hr =>
      refine ⟨_, _, rfl, h1 _ _ δ σ G H _ _ S hd q fun δ1 σ1 S1 k1 q1 => h2 _ _ δ1 σ1 G H _ _ S1 hr q1 fun δ2 σ2 S2 k2 q2 => k δ2 σ2 S2 ⟨k2.1.trans k1.1, fun j hj => ?_⟩ q2⟩
      rw [k2.2 j (fun z => hj (List.mem_append_right _ z)), k1.2 j (fun z => hj (List.mem_append_left _ z))]
  · exact q.elim
theorem gv_tup {n : Nat} (h : GsvD K H₀ gs ns dgs) : GvD K H₀ (gTup K n gs) ns (gvTup n dgs) := fun v d δ σ G H Qd Q S hd q k => by
  unfold gvTup at q
  split at q
  · obtain ⟨a, vs, rfl, h1, h2⟩ := dv_tuple hd
    exact ⟨a, vs, rfl, sqT_same S.sub.same h1, by rw [h2.len]; exact q.1, h _ _ δ σ G H _ _ S h2 q.2 k⟩
  · exact q.elim
noncomputable def dAsg (de : DE) (dg : DG) (e : DEnds) (δ : DEn) : Prop := de e.ex δ fun d => dg d δ e.nx
theorem sv_asg (h : EvD K H₀ E te de) (hg : GvD K H₀ g ns dg) : SvD K H₀ E (tAsg te g) (dAsg de dg) := fun δ σ G H e D hx S q L =>
  h e.ex δ σ G H _ _ hx S q fun v d G' H' x hd qd => hg v d δ σ G' H' _ _ (S.ext x) hd qd fun δ' σ' S' _ q' => L.nx δ' σ' G' H' x.g S' q'
noncomputable def dSetO (dl : DL) (i : Nat) (e : DEnds) (δ : DEn) : Prop := dl e.ex δ fun ds => e.nx (put (some (.own ds)) i δ)
theorem sv_setO (i : Nat) (h : OvD K H₀ E te dl) : SvD K H₀ E (tAsg te (gName i)) (dSetO dl i) := fun δ σ G H e D hx S q L =>
  h e.ex δ σ G H _ _ hx S q fun a vs ds G' H' x hn hg hh hd qd => L.nx _ _ G' H' x.g (S.setO x i hn hg hh hd) qd
noncomputable def noOwn : DEn → Bool
  | [] => true
  | some (.own _) :: _ => false
  | _ :: r => noOwn r
theorem noOwn_slot : ∀ {δ : DEn} {i : Nat} {ds : List PyData}, noOwn δ = true → slot δ i ≠ some (.own ds)
  | [], _, _, _, h => by cases h
  | some (.own _) :: _, _, _, h, _ => by cases h
  | some (.dat _) :: _, 0, _, _, h => by cases h
  | some (.exc _) :: _, 0, _, _, h => by cases h
  | some (.fz _ _) :: _, 0, _, _, h => by cases h
  | some (.fz _ _) :: r, i + 1, ds, h, e => noOwn_slot (δ := r) (i := i) (ds := ds) h e
  | some (.two _ _) :: _, 0, _, _, h => by cases h
  | some (.two _ _) :: r, i + 1, ds, h, e => noOwn_slot (δ := r) (i := i) (ds := ds) h e
  | none :: _, 0, _, _, h => by cases h
  | some (.exc _) :: r, i + 1, ds, h, e => noOwn_slot (δ := r) (i := i) (ds := ds) h e
  | some (.dat _) :: r, i + 1, ds, h, e => noOwn_slot (δ := r) (i := i) (ds := ds) h e
  | none :: r, i + 1, ds, h, e => noOwn_slot (δ := r) (i := i) (ds := ds) h e
theorem Sees.all2 {G H H' : Hp} {δ : DEn} {σ : L2.St} (S : Sees K H₀ G δ σ H) (h : noOwn δ = true) (sm : Same H H') : Sees K H₀ H' δ σ H' :=
  ⟨S.oldH.trans sm, .refl _, S.len, fun i s e => by
    obtain ⟨v, h1, h2⟩ := S.has i s e
    cases s with
    | dat d => exact ⟨v, h1, dv_same (S.sub.same.trans sm) h2⟩
    | two xs ys => exact h2.elim
    | fz as d => exact ⟨v, h1, FzIs.same (S.sub.same.trans sm) h2⟩
    | exc C =>
      obtain ⟨x, rfl, hx⟩ := h2
      exact ⟨_, h1, x, rfl, sm _ _ (S.sub.same _ _ hx)⟩
    | own ds => exact absurd e (noOwn_slot h), fun i j xs ys a e => absurd e (noOwn_slot h)⟩
noncomputable def frzAt (i : Nat) (δ : DEn) : DEn := match slot δ i with
  | some (.own ds) => put (some (.dat (.list ds))) i δ
  | _ => δ
noncomputable def dFrz (i : Nat) (d : DS) (e : DEnds) (δ : DEn) : Prop := d e (frzAt i δ)
theorem sv_frz (i : Nat) (h : SvD K H₀ E ts ds) : SvD K H₀ E ts (dFrz i ds) := fun δ σ G H e D hx S q L => by
  unfold dFrz frzAt at q
  split at q
  · rename_i xs hs
    obtain ⟨G', s, S'⟩ := S.frz hs
    exact h _ σ G' H e D hx S' q (L.mono s)
  · exact h δ σ G H e D hx S q L
noncomputable def dPar (i j : Nat) (dl : DL) (e : DEnds) (δ : DEn) : Prop := dl e.ex δ fun ds => match ds with
  | [d1, d2] => e.nx (put (some (.dat d2)) j (put (some (.dat d1)) i δ))
  | _ => False
theorem sv_par {n : Nat} (i j : Nat) (h : AvE K H₀ E t n dl) : SvD K H₀ E (tPar i j t) (dPar i j dl) := fun δ σ G H e D hx S q L =>
  h e.ex δ σ G H _ _ hx S q fun vs ds G' H' x hd _ qd => by
    split at qd
    · obtain ⟨v, w, rfl, h1, h2⟩ := dvs2 hd
      exact ⟨v, w, rfl, L.nx _ _ G' H' x.g (((S.ext x).setD i h1).setD j h2) qd⟩
    · exact qd.elim
noncomputable def dRaise (C : Addr) (dl : DL) (e : DEnds) (δ : DEn) : Prop := dl e.ex δ fun _ => e.ex C
theorem sv_raise {C : Addr} {n : Nat} (h : AvE K H₀ E t n dl) (hn : n ≤ 1000) : SvD K H₀ E (tRaise E C t) (dRaise C dl) := fun δ σ G H e D hx S q L =>
  h e.ex δ σ G H _ _ hx S q fun vs ds G' H' x hd q0 qd => ⟨Nat.le_of_lt (small1000 (by rw [hd.len, q0]; exact hn)), hx C H' (S.ext x).oldH qd⟩
noncomputable def dApp (i : Nat) (de : DE) (e : DEnds) (δ : DEn) : Prop := match slot δ i with
  | some (.own ds) => de e.ex δ fun d => ds.length < 1000 ∧ e.nx (put (some (.own (ds ++ [d]))) i δ)
  | _ => False
theorem sv_app (i : Nat) (h : EvD K H₀ E te de) : SvD K H₀ E (tDrop (tBM K "list" rAppend (tVar i) (tCons te tNil))) (dApp i de) := fun δ σ G H e D hx S q L => by
  unfold dApp at q
  split at q
  · rename_i ds hs
    obtain ⟨a, vs, h1, h2, h3, h4⟩ := S.ownAt hs
    refine ⟨_, h1, .inl ⟨rfl, _, SqL.of h3⟩, h e.ex δ σ G H _ _ hx S q fun v d G' H' x hd qd => ?_⟩
    obtain ⟨q1, q2⟩ := qd
    have S' := S.ext x
    exact ⟨a, vs, v, rfl, rfl, x.h _ _ h3, small1000 (by rw [h4.len]; omega), L.nx _ _ G' _ x.g (S'.updO hs h1 ((dvs_same x.g h4).append (.cons hd .nil))) q2⟩
  · exact q.elim
noncomputable def ItS (K : PySem.W.Frag) (J : It) (G : Hp) (ds : List PyData) : Prop := ∀ G' H', Same G G' → Sub G' H' → ∀ i,
  (∀ d, ds[i]? = some d → J.go i H' ∧ ∀ x H2, J.yld i H' x H2 → ∃ G2, Ext G' H' G2 H2 ∧ DV K G2 x d) ∧ (ds.length ≤ i → J.stop i H')
noncomputable def ItE (K : PySem.W.Frag) (J : It) (G H : Hp) (ds : List PyData) : Prop := ∀ G' H', Ext G H G' H' → ∀ i,
  (∀ d, ds[i]? = some d → J.go i H' ∧ ∀ x H2, J.yld i H' x H2 → ∃ G2, Ext G' H' G2 H2 ∧ DV K G2 x d) ∧ (ds.length ≤ i → J.stop i H')
theorem ItS.e {J : It} {G H : Hp} {ds : List PyData} (h : ItS K J G ds) : ItE K J G H ds := fun G' H' e => h G' H' e.g e.s
noncomputable def IvS (K : PySem.W.Frag) (H₀ : Hp) (E : XK) (wi : TI) (dl : DL) : Prop := ∀ ex δ σ G H Qd R, ExOk H₀ E ex → Sees K H₀ G δ σ H → dl ex δ Qd → (∀ J ds G' H', Ext G H G' H' → ItS K J G' ds → Qd ds → R J H') → wi σ H R
noncomputable def IvE (K : PySem.W.Frag) (H₀ : Hp) (E : XK) (wi : TI) (dl : DL) : Prop := ∀ ex δ σ G H Qd R, ExOk H₀ E ex → Sees K H₀ G δ σ H → dl ex δ Qd → (∀ J ds G' H', Ext G H G' H' → ItE K J G' H' ds → Qd ds → R J H') → wi σ H R
theorem IvS.e {wi : TI} (h : IvS K H₀ E wi dl) : IvE K H₀ E wi dl := fun ex δ σ G H Qd R hx S q k => h ex δ σ G H Qd R hx S q fun J ds G' H' e hi qd => k J ds G' H' e hi.e qd
theorem is_list (h : EvD K H₀ E te de) : IvS K H₀ E (iList K te) (dAsL de) := fun ex δ σ G H Qd R hx S q k =>
  h ex δ σ G H _ _ hx S q fun v d G' H' e hd qd => by
    cases d with
    | list ds =>
      obtain ⟨a, vs, rfl, h1, h2⟩ := dv_list hd
      refine ⟨a, rfl, ⟨vs, e.s.same.seq h1⟩, k _ ds G' H' e (fun G2 H2 s1 s2 i => ⟨fun d hi => ?_, fun hi => ⟨vs, s2.same.seq (s1.seq h1), by rw [h2.len]; exact hi⟩⟩) qd⟩
      obtain ⟨x, g1, g2⟩ := h2.at hi
      refine ⟨⟨vs, x, s2.same.seq (s1.seq h1), g1⟩, fun y H3 ⟨z, w⟩ => ?_⟩
      subst z
      have := w vs (s2.same.seq (s1.seq h1))
      rw [g1] at this
      cases this
      exact ⟨G2, .refl s2, dv_same s1 g2⟩
    | _ => exact qd.elim
theorem ie_list (h : LvD K H₀ E te dl) : IvE K H₀ E (iList K te) dl := fun ex δ σ G H Qd R hx S q k =>
  h ex δ σ G H _ _ hx S q fun a vs ds G' H' e h1 h2 qd => by
    refine ⟨a, rfl, ⟨vs, h1⟩, k _ ds G' H' e (fun G2 H2 e2 i => ⟨fun d hi => ?_, fun hi => ⟨vs, e2.h.seq h1, by rw [h2.len]; exact hi⟩⟩) qd⟩
    obtain ⟨x, g1, g2⟩ := h2.at hi
    refine ⟨⟨vs, x, e2.h.seq h1, g1⟩, fun y H3 ⟨z, w⟩ => ?_⟩
    subst z
    have := w vs (e2.h.seq h1)
    rw [g1] at this
    cases this
    exact ⟨G2, .refl e2.s, dv_same e2.g g2⟩
noncomputable def rngD (lo : Int) (n : Nat) (st : Int) : List PyData := (List.range n).map fun (k : Nat) => PyData.int (lo + (k : Int) * st)
theorem rngD_at {lo st : Int} {n i : Nat} {d : PyData} (h : (rngD lo n st)[i]? = some d) : i < n ∧ d = .int (lo + (i : Int) * st) := by
  unfold rngD at h
  rw [List.getElem?_map] at h
  cases q : (List.range n)[i]? with
  | none => rw [q] at h; cases h
  | some k =>
    rw [q] at h
    obtain ⟨h1, h2⟩ := List.getElem?_eq_some_iff.mp q
    simp only [List.getElem_range] at h2
    subst h2
    simp only [List.length_range] at h1
    simp only [Option.map_some, Option.some.injEq] at h
    exact ⟨h1, h.symm⟩
theorem rngD_len {lo st : Int} {n : Nat} : (rngD lo n st).length = n := by simp [rngD]
noncomputable def dRng1 (dl : DL) (ex : DX) (δ : DEn) (Q : List PyData → Prop) : Prop := dl ex δ fun ds => match ds with
  | [.int j] => (-(2 ^ 62) ≤ j ∧ j < 2 ^ 62) ∧ Q (rngD 0 j.toNat 1)
  | _ => False
noncomputable def dRng3 (dl : DL) (ex : DX) (δ : DEn) (Q : List PyData → Prop) : Prop := dl ex δ fun ds => match ds with
  | [.int i, .int j, .int k] => ∃ n : Nat, (k ≠ 0 ∧ k.natAbs < 1000000 ∧ Builtin.Range.small i j k = true) ∧ Builtin.Range.rangeSize i j k = (n : Int) ∧ Q (rngD i n k)
  | _ => False
theorem itS_r {lo : Int} {n : Nat} {G : Hp} : ItS K (Itr lo n) G (rngD lo n 1) := fun G' H' s1 s2 i => ⟨fun d hi => by
    obtain ⟨h1, rfl⟩ := rngD_at hi
    refine ⟨h1, fun x H2 ⟨e1, e2⟩ => ?_⟩
    subst e1 e2
    rw [Int.mul_one]
    exact ⟨G', .refl s2, .int _⟩, fun hi => by rw [rngD_len] at hi; exact hi⟩
theorem itS_s {lo st : Int} {n : Nat} {G : Hp} : ItS K (Its lo st n) G (rngD lo n st) := fun G' H' s1 s2 i => ⟨fun d hi => by
    obtain ⟨h1, rfl⟩ := rngD_at hi
    refine ⟨h1, fun x H2 ⟨e1, e2⟩ => ?_⟩
    subst e1 e2
    exact ⟨G', .refl s2, .int _⟩, fun hi => by rw [rngD_len] at hi; exact hi⟩
theorem dvs3 {H : Hp} {xs : List V} {d e f : PyData} (h : DVs K H xs [d, e, f]) : ∃ x y z, xs = [x, y, z] ∧ DV K H x d ∧ DV K H y e ∧ DV K H z f := by
  cases h with
  | cons h t => cases t with
    | cons h2 t => cases t with
      | cons h3 t => cases t; exact ⟨_, _, _, rfl, h, h2, h3⟩
theorem is_rng1 (h : AvD K H₀ E t dl) : IvS K H₀ E (iRng1 t) (dRng1 dl) := fun ex δ σ G H Qd R hx S q k =>
  h ex δ σ G H _ _ hx S q fun vs ds G' H' e hd qd => by
    split at qd
    · obtain ⟨x, rfl, h1⟩ := dvs1 hd
      cases dv_int h1
      exact ⟨_, rfl, qd.1.1, qd.1.2, k _ _ G' H' e itS_r qd.2⟩
    · exact qd.elim
theorem is_rng3 (h : AvD K H₀ E t dl) : IvS K H₀ E (iRng3 t) (dRng3 dl) := fun ex δ σ G H Qd R hx S q k =>
  h ex δ σ G H _ _ hx S q fun vs ds G' H' e hd qd => by
    split at qd
    · obtain ⟨x, y, z, rfl, h1, h2, h3⟩ := dvs3 hd
      cases dv_int h1; cases dv_int h2; cases dv_int h3
      obtain ⟨n, ⟨q1, q2, q3⟩, q4, q5⟩ := qd
      exact ⟨_, _, _, rfl, n, q1, q2, q3, q4, k _ _ G' H' e itS_s q5⟩
    · exact qd.elim
noncomputable def dFor (dl : DL) (dg : DG) (db : DS) (e : DEnds) (δ : DEn) : Prop := dl e.ex δ fun ds => ∃ I : Nat → DEn → Prop, I 0 δ ∧
  (∀ i d δ', ds[i]? = some d → I i δ' → dg d δ' fun δ2 => db { e with nx := I (i + 1), ct := I (i + 1), bk := e.nx } δ2) ∧ ∀ δ', I ds.length δ' → e.nx δ'
theorem sv_for {wi : TI} (hi : IvS K H₀ E wi dl) (hg : GvD K H₀ g ns dg) (hb : SvD K H₀ E ts ds) : SvD K H₀ E (tFor wi g ts) (dFor dl dg ds) := fun δ σ G H e D hx S q L =>
  hi e.ex δ σ G H _ _ hx S q fun J xs G1 H1 e1 it ⟨I, i0, step, fin⟩ => by
    refine ⟨fun i m σ H => m = xs.length - i ∧ i ≤ xs.length ∧ ∃ δ' G', Same G1 G' ∧ Sees K H₀ G' δ' σ H ∧ I i δ', ⟨_, rfl, Nat.zero_le _, δ, G1, Same.refl _, S.ext e1, i0⟩, ?_⟩
    rintro i m σ' H' ⟨rfl, hil, δ', G', sg, S', hI⟩
    obtain ⟨t1, t2⟩ := it G' H' sg S'.sub i
    by_cases hlt : i < xs.length
    · obtain ⟨g1, g2⟩ := t1 _ (List.getElem?_eq_getElem hlt)
      refine .inr ⟨g1, fun σ H => ∃ δ' G', Same G1 G' ∧ Sees K H₀ G' δ' σ H ∧ I (i + 1) δ', fun σ2 H2 z => ⟨_, by omega, rfl, hlt, z⟩, fun x H2 y => ?_⟩
      obtain ⟨G2, e2, hd⟩ := g2 x H2 y
      have S2 := S'.ext e2
      refine hg x _ δ' σ' G2 H2 _ _ S2 hd (step i _ δ' (List.getElem?_eq_getElem hlt) hI) fun δ3 σ3 S3 _ q3 => ?_
      have up : Same G1 G2 := sg.trans e2.g
      exact hb δ3 σ3 G2 H2 { e with nx := I (i + 1), ct := I (i + 1), bk := e.nx } _ hx S3 q3 ⟨fun δ4 σ4 G4 H4 s4 S4 q4 => ⟨δ4, G4, up.trans s4, S4, q4⟩, L.rt, fun δ4 σ4 G4 H4 s4 S4 q4 => L.nx δ4 σ4 G4 H4 (e1.g.trans (up.trans s4)) S4 q4, fun δ4 σ4 G4 H4 s4 S4 q4 => ⟨δ4, G4, up.trans s4, S4, q4⟩⟩
    · have : i = xs.length := by omega
      subst this
      exact .inl ⟨t2 (Nat.le_refl _), L.nx δ' σ' G' H' (e1.g.trans sg) S' (fin δ' hI)⟩
noncomputable def dWhile (dt : DT) (db : DS) (e : DEnds) (δ : DEn) : Prop := ∃ I : Nat → DEn → Prop, (∃ m, I m δ) ∧ ∀ m δ', I m δ' →
  dt e.ex δ' fun b => if b = true then db { e with nx := fun δ2 => ∃ k, k < m ∧ I k δ2, ct := fun δ2 => ∃ k, k < m ∧ I k δ2, bk := e.nx } δ' else e.nx δ'
theorem sv_while (h : TvD K H₀ E tt dt) (hb : SvD K H₀ E ts ds) : SvD K H₀ E (tWhile tt ts) (dWhile dt ds) := fun δ σ G H e D hx S ⟨I, ⟨m0, i0⟩, step⟩ L => by
  refine ⟨fun m σ H => ∃ δ' G', Same G G' ∧ Sees K H₀ G' δ' σ H ∧ I m δ', ⟨m0, δ, G, Same.refl _, S, i0⟩, ?_⟩
  rintro m σ' H' ⟨δ', G', sg, S', hI⟩
  refine h e.ex δ' σ' G' H' _ _ hx S' (step m δ' hI) fun b G2 H2 e2 q2 => ?_
  have S2 := S'.ext e2
  have up : Same G G2 := sg.trans e2.g
  cases b with
  | true =>
    have n1 : ∀ δ4 σ4 G4 H4, Same G2 G4 → Sees K H₀ G4 δ4 σ4 H4 → (∃ k, k < m ∧ I k δ4) → ∃ k, k < m ∧ ∃ δ' G', Same G G' ∧ Sees K H₀ G' δ' σ4 H4 ∧ I k δ' := fun δ4 σ4 G4 H4 s4 S4 ⟨k, hk, q4⟩ => ⟨k, hk, δ4, G4, up.trans s4, S4, q4⟩
    exact ⟨fun σ4 H4 => ∃ k, k < m ∧ ∃ δ' G', Same G G' ∧ Sees K H₀ G' δ' σ4 H4 ∧ I k δ', fun _ _ z => z, hb δ' σ' G2 H2 { e with nx := fun δ2 => ∃ k, k < m ∧ I k δ2, ct := fun δ2 => ∃ k, k < m ∧ I k δ2, bk := e.nx } _ hx S2 q2 ⟨n1, L.rt, fun δ4 σ4 G4 H4 s4 S4 q4 => L.nx δ4 σ4 G4 H4 (up.trans s4) S4 q4, n1⟩⟩
  | false => exact L.nx δ' σ' G2 H2 up S2 q2
noncomputable def capD (cap : List (Option Nat)) (δ : DEn) : DEn := match cap with
  | [] => []
  | none :: r => none :: capD r δ
  | some i :: r => slot δ i :: capD r δ
theorem capD_len : ∀ (cap : List (Option Nat)) (δ : DEn), (capD cap δ).length = cap.length
  | [], _ => rfl
  | none :: r, δ => by simp [capD, capD_len r δ]
  | some i :: r, δ => by simp [capD, capD_len r δ]
theorem capD_slot : ∀ {cap : List (Option Nat)} {δ : DEn} {j : Nat} {s : Sl}, slot (capD cap δ) j = some s → ∃ i, cap[j]? = some (some i) ∧ slot δ i = some s
  | [], _, _, _, h => by cases h
  | none :: r, δ, 0, s, h => by cases h
  | some i :: r, δ, 0, s, h => ⟨i, rfl, h⟩
  | none :: r, δ, j + 1, s, h => by
    obtain ⟨i, h1, h2⟩ := capD_slot (cap := r) (δ := δ) (j := j) h
    exact ⟨i, by simpa using h1, h2⟩
  | some _ :: r, δ, j + 1, s, h => by
    obtain ⟨i, h1, h2⟩ := capD_slot (cap := r) (δ := δ) (j := j) h
    exact ⟨i, by simpa using h1, h2⟩
theorem cap_mem {cap : List (Option Nat)} {j i : Nat} (h : cap[j]? = some (some i)) : i ∈ cap.filterMap id := List.mem_filterMap.mpr ⟨some i, List.mem_of_getElem? h, rfl⟩
theorem cap_inj : ∀ {cap : List (Option Nat)} {j k i : Nat}, (cap.filterMap id).Nodup → cap[j]? = some (some i) → cap[k]? = some (some i) → j = k
  | [], _, _, _, _, h, _ => by simp at h
  | none :: r, 0, _, _, _, h, _ => by simp at h
  | none :: r, _ + 1, 0, _, _, _, h => by simp at h
  | none :: r, j + 1, k + 1, i, n, h1, h2 => congrArg (· + 1) (cap_inj (cap := r) (by simpa using n) (by simpa using h1) (by simpa using h2))
  | some a :: r, 0, 0, _, _, _, _ => rfl
  | some a :: r, 0, k + 1, i, n, h1, h2 => by
    have e : a = i := by simpa using h1
    subst e
    have : a ∈ r.filterMap id := cap_mem (by simpa using h2)
    simp only [List.filterMap_cons, id, List.nodup_cons] at n
    exact absurd this n.1
  | some a :: r, j + 1, 0, i, n, h1, h2 => by
    have e : a = i := by simpa using h2
    subst e
    have : a ∈ r.filterMap id := cap_mem (by simpa using h1)
    simp only [List.filterMap_cons, id, List.nodup_cons] at n
    exact absurd this n.1
  | some a :: r, j + 1, k + 1, i, n, h1, h2 => congrArg (· + 1) (cap_inj (cap := r) (by
      simp only [List.filterMap_cons, id, List.nodup_cons] at n
      exact n.2) (by simpa using h1) (by simpa using h2))
noncomputable def CapSt (cap : List (Option Nat)) (σ σc : L2.St) : Prop := σc.length = cap.length ∧ ∀ (j i : Nat), cap[j]? = some (some i) → σc[j]? = some ((σ[i]?).bind id)
theorem capst0 {cap : List (Option Nat)} {σ : L2.St} : CapSt cap σ (capσ cap σ) := ⟨by simp [capσ], fun j i h => by
  unfold capσ
  rw [List.getElem?_map, h]
  rfl⟩
theorem capSees {cap : List (Option Nat)} {G H G' H' : Hp} {δ : DEn} {σ σc : L2.St} (S : Sees K H₀ G δ σ H) (e : Ext G H G' H') (hn : (cap.filterMap id).Nodup) (c : CapSt cap σ σc) : Sees K H₀ G' (capD cap δ) σc H' := by
  have S' := S.ext e
  refine ⟨S'.old, S'.sub, by rw [capD_len, c.1]; exact Nat.le_refl _, fun j s h => ?_, fun j k xs ys a h1 h2 e1 e2 => ?_⟩
  · obtain ⟨i, h1, h2⟩ := capD_slot h
    obtain ⟨v, h3, h4⟩ := S'.has i s h2
    refine ⟨v, ?_, h4⟩
    rw [c.2 j i h1, h3]
    rfl
  · obtain ⟨i, g1, g2⟩ := capD_slot h1
    obtain ⟨i', g3, g4⟩ := capD_slot h2
    obtain ⟨b, _, q1, _⟩ := S'.ownAt g2
    obtain ⟨b', _, q2, _⟩ := S'.ownAt g4
    rw [c.2 j i g1, q1] at e1
    rw [c.2 k i' g3, q2] at e2
    have z1 : b = a := by cases e1; rfl
    have z2 : b' = a := by cases e2; rfl
    subst z1; subst z2
    have := S'.sep i i' xs ys _ g2 g4 q1 q2
    subst this
    exact cap_inj hn g1 g3
noncomputable def dYes (_ex : DX) (_δ : DEn) (Q : Bool → Prop) : Prop := Q true
theorem tv_yes : TvD K H₀ E tYes dYes := fun ex δ σ G H Qd Q hx S q k => k true G H S.refl q
noncomputable def dLC (dl : DL) (cap : List (Option Nat)) (dg : DG) (dt : DT) (de : DE) (ex : DX) (δ : DEn) (Q : List PyData → Prop) : Prop := dl ex δ fun ds => ds.length ≤ 1000 ∧ ∃ I : Nat → List PyData → Prop, I 0 [] ∧
  (∀ i d acc, ds[i]? = some d → I i acc → dg d (capD cap δ) fun δ2 => dt (fun _ => False) δ2 fun b => if b = true then de (fun _ => False) δ2 fun y => I (i + 1) (acc ++ [y]) else I (i + 1) acc) ∧ ∀ acc, I ds.length acc → Q acc
theorem ov_lc {wi : TI} {cap : List (Option Nat)} (hi : IvE K H₀ E wi dl) (hg : GvD K H₀ g ns dg) (ht : TvD K H₀ E tt dt) (he : EvD K H₀ E te de) (hn : (cap.filterMap id).Nodup) (hns : ns.all (fun j => (cap[j]?.bind id).isNone) = true) : OvD K H₀ E (tLC wi cap g tt te) (dLC dl cap dg dt de) := fun ex δ σ G H Qd Q hx S q k =>
  hi ex δ σ G H _ _ hx S q fun J xs G1 H1 e1 it ⟨hlen, I, i0, step, fin⟩ => by
    intro D hD
    obtain ⟨eD, gD⟩ := ext_newL (xs := []) e1.s hD
    refine ⟨fun i m σc Hc => m = xs.length - i ∧ i ≤ xs.length ∧ CapSt cap σ σc ∧ ∃ G' acc ys, Ext G1 H1 G' Hc ∧ G' D = none ∧ Hc D = some (.lst ys) ∧ DVs K G' ys acc ∧ acc.length ≤ i ∧ I i acc,
      ⟨_, rfl, Nat.zero_le _, capst0, G1, [], [], eD, gD, upd_same, .nil, Nat.le_refl _, i0⟩, ?_⟩
    rintro i m σc Hc ⟨rfl, hil, cs, G', acc, ys, e', gd, hd, hv, hal, hI⟩
    obtain ⟨t1, t2⟩ := it G' Hc e' i
    by_cases hlt : i < xs.length
    · obtain ⟨g1, g2⟩ := t1 _ (List.getElem?_eq_getElem hlt)
      refine .inr ⟨g1, fun σ2 H2 => CapSt cap σ σ2 ∧ ∃ G' acc ys, Ext G1 H1 G' H2 ∧ G' D = none ∧ H2 D = some (.lst ys) ∧ DVs K G' ys acc ∧ acc.length ≤ i + 1 ∧ I (i + 1) acc, fun σ2 H2 z => ⟨_, by omega, rfl, hlt, z⟩, fun x H2 y => ?_⟩
      obtain ⟨G2, e2, hx2⟩ := g2 x H2 y
      have S2 : Sees K H₀ G2 (capD cap δ) σc H2 := capSees S (e1.trans (e'.trans e2)) hn cs
      refine hg x _ _ σc G2 H2 _ _ S2 hx2 (step i _ acc (List.getElem?_eq_getElem hlt) hI) fun δ3 σ3 S3 kp q3 => ?_
      have cs3 : CapSt cap σ σ3 := ⟨kp.1.trans cs.1, fun j z hj => by
        rw [kp.2 j (fun hm => by
          have := List.all_eq_true.mp hns j hm
          rw [hj] at this
          cases this)]
        exact cs.2 j z hj⟩
      refine ht (fun _ => False) δ3 σ3 G2 H2 _ _ exok0 S3 q3 fun b G4 H4 e4 q4 => ?_
      cases b with
      | true =>
        refine he (fun _ => False) δ3 σ3 G4 H4 _ _ exok0 (S3.ext e4) q4 fun y dy G5 H5 e5 hy q5 => ?_
        have e25 : Ext G' Hc G5 H5 := e2.trans (e4.trans e5)
        have gd5 : G5 D = none := e25.keep gd hd
        have hd5 : H5 D = some (.lst ys) := e25.h _ _ hd
        have e15 : Ext G1 H1 G5 H5 := e'.trans e25
        refine ⟨ys, hd5, small1000 (by rw [hv.len]; omega), cs3, G5, acc ++ [dy], ys ++ [y], ⟨e15.g, fun b o z => ?_, fun b => ?_, e15.n⟩, gd5, upd_same, (dvs_same e25.g hv).append (.cons hy .nil), by rw [List.length_append]; simp; exact hal, q5⟩
        · rw [upd_ne (ne_of_none z hD)]; exact e15.h b o z
        · by_cases w : b = D
          · subst w; exact .inr ⟨gd5, _, upd_same⟩
          · rw [upd_ne w]; exact e15.s b
      | false =>
        have e24 : Ext G' Hc G4 H4 := e2.trans e4
        exact ⟨cs3, G4, acc, ys, e'.trans e24, e24.keep gd hd, e24.h _ _ hd, dvs_same e24.g hv, Nat.le_succ_of_le hal, q4⟩
    · have : i = xs.length := by omega
      subst this
      exact .inl ⟨t2 (Nat.le_refl _), k D ys acc G' Hc (e1.trans e') (e1.h.free hD) gd hd hv (fin acc hI)⟩
end
noncomputable def startN : List Str → List PyData → DEn
  | [], _ => []
  | _ :: N, [] => none :: startN N []
  | _ :: N, d :: ds => some (.dat d) :: startN N ds
theorem startN_len : ∀ (N : List Str) (ds : List PyData), (startN N ds).length = N.length
  | [], _ => rfl
  | _ :: N, [] => congrArg (· + 1) (startN_len N [])
  | _ :: N, _ :: ds => congrArg (· + 1) (startN_len N ds)
theorem startN_slot : ∀ {N : List Str} {ds : List PyData} {i : Nat} {s : Sl}, slot (startN N ds) i = some s → ∃ d, ds[i]? = some d ∧ s = .dat d
  | [], _, _, _, h => by cases h
  | _ :: N, [], 0, _, h => by cases h
  | _ :: N, [], i + 1, s, h => by
    obtain ⟨d, h1, _⟩ := startN_slot (N := N) (ds := []) (i := i) h
    simp at h1
  | _ :: N, d :: ds, 0, s, h => by cases h; exact ⟨d, rfl, rfl⟩
  | _ :: N, _ :: ds, i + 1, s, h => by
    obtain ⟨d, h1, h2⟩ := startN_slot (N := N) (ds := ds) (i := i) h
    exact ⟨d, by simpa using h1, h2⟩
theorem sees_start {K : PySem.W.Frag} {H : Hp} {N : List Str} {vs : List V} {ds : List PyData} (h : DVs K H vs ds) : Sees K H H (startN N ds) (L2.start N vs) H := by
  refine ⟨Same.refl _, .refl _, ?_, fun i s e => ?_, fun i j xs ys a e => ?_⟩
  · rw [startN_len]
    simp only [L2.start, List.length_append, List.length_map, List.length_replicate]
    omega
  · obtain ⟨d, h1, rfl⟩ := startN_slot e
    obtain ⟨v, h2, h3⟩ := h.at h1
    refine ⟨v, ?_, h3⟩
    unfold L2.start
    rw [List.getElem?_append_left (by rw [List.length_map]; exact (List.getElem?_eq_some_iff.mp h2).1), List.getElem?_map, h2]
    rfl
  · obtain ⟨d, _, z⟩ := startN_slot e
    cases z
section
variable {P : Program} {w : World} {K : PySem.W.Frag} {mg : Str → Option Value} {base : Heap}
theorem okW {x qual : Str} {st : Stmt} {f : Addr} {fd : FuncData} {N ps : List Str} {k : Nat} {W : DW} (F : Fun K x qual st f fd) (S : FnScope N ps (defScope st)) (len : ∀ ds Q E, W ds Q E → ds.length = ps.length)
    (hbody : ∀ (cdv : Value) (A : Around) (outer : List Env) (s : Shared) (H : Hp) (E : XK), Room k (A.deeper (envOfC qual (defScope st) s.heap.objs.size f cdv)) →
      ∃ t, PSs (cxOf (CXE P w) P w K mg base N qual (defScope st) f cdv A outer s H E) (defBody st) t ∧ ∃ d, SvD K H E t d ∧ ∀ ds Q X, W ds Q X → d { nx := fun _ => Q (.dat .none), rt := Q, ex := X } (startN N ds)) : FnOk P w K mg base (CXE P w) (k + 1) f fd ps (spW K W) := by
  refine okE F S (fun vs H Q E h => ?_) (fun cdv A outer s H vs Q E hr h => ?_)
  · obtain ⟨ds, Qd, Ed, h1, h2, _⟩ := h
    rw [h1.len]; exact len _ _ _ h2
  · obtain ⟨ds, Qd, Ed, h1, h2, h3, h4⟩ := h
    obtain ⟨t, ht, d, hd, hq⟩ := hbody cdv A outer s H E hr
    refine ⟨t, ht, hd _ _ H H { nx := fun _ => Qd (.dat .none), rt := Qd, ex := Ed } _ h4 (sees_start h1) (hq ds Qd Ed h2) ⟨fun δ σ G H' _ S q => ?_, fun v s H' sm r q => h3 v s H' sm r q, fun _ _ _ _ _ _ z => z.elim, fun _ _ _ _ _ _ z => z.elim⟩⟩
    exact h3 .non (.dat .none) H' S.oldH .non q
end
noncomputable def kinds : List String := ["int", "bool", "str", "list", "tuple"]
theorem kit_of {K : PySem.W.Frag} (d : PyData) (n : String) (hn : kinds.contains n = true) : PySem.W.kitOne K (.type (tyD d)) (.type n) = some (isD n d) := by
  have hm : n = "int" ∨ n = "bool" ∨ n = "str" ∨ n = "list" ∨ n = "tuple" := by
    simpa [kinds] using hn
  have ht : tyD d = "NoneType" ∨ tyD d = "bool" ∨ tyD d = "int" ∨ tyD d = "str" ∨ tyD d = "list" ∨ tyD d = "tuple" ∨ tyD d = "dict" := by
    cases d <;> simp [tyD]
  have key : ∀ t n : String, t ≠ n → (PySem.W.kitOne K (.type t) (.type n) = PySem.W.kitCls K (.type t) (.type n)) := fun t n h => by
    unfold PySem.W.kitOne
    rw [if_neg (by simpa using h)]
  have same : ∀ n : String, PySem.W.kitOne K (.type n) (.type n) = some true := fun n => by
    unfold PySem.W.kitOne
    rw [if_pos (by simp)]
  unfold isD
  generalize tyD d = t at ht
  clear hn
  rcases ht with rfl | rfl | rfl | rfl | rfl | rfl | rfl <;> rcases hm with rfl | rfl | rfl | rfl | rfl <;>
    first
    | exact same _
    | (rw [key _ _ (by decide)]
       unfold PySem.W.kitCls PySem.W.subIn
       dsimp only
       rw [if_pos (by decide +kernel)]
       decide +kernel)
section
variable {X : Cx} {pins : List (Addr × Obj)} {σ : L2.St} {H : Hp} {s : Shared}
theorem isi_dv {A : Around} {Q : Value → Shared → Prop} {Ee : Value → Shared → Prop} {x : V} {d : PyData} {u c : Value} {b : Bool} (I : Inv X pins σ H s) (rx : RelV x u) (h : DV X.K H x d) (e : PySem.W.kitOne X.K (.type (tyD d)) c = some b) (hq : ∀ tk, Q (.bool b) { s with toks := tk }) :
    wpAny (model X.prog X.w) A (call (.builtin "isinstance") [u, c]) Q Ee s := by
  cases h with
  | non => exact isinst_ok I rx .non e hq
  | bl y => exact isinst_ok I rx (.bl y) e hq
  | int y => exact isinst_ok I rx (.int y) e hq
  | str y => exact isinst_ok I rx (.str y) e hq
  | @lst a xs ds hs hd =>
    cases (show u = Value.ref a from rx)
    obtain ⟨its, r, ⟨o, n, ho, hc, _, _⟩, _⟩ := I.list hs
    exact PySem.W.kia_one PySem.W.kitx_list I.kIn ⟨o, ho, hc⟩ e (fun z => nomatch z) hq
  | @tup a xs ds hs hd =>
    cases (show u = Value.ref a from rx)
    obtain ⟨its, r, ⟨o, ho, hc, n, _⟩, _⟩ := I.tuple hs
    exact PySem.W.kia_one PySem.W.kitx_tuple I.kIn ⟨o, ho, hc⟩ e (fun z => nomatch z) hq
  | dct hd => exact isinst_ok I rx (.dK hd) e hq
noncomputable def rIsi (K : PySem.W.Frag) : List V → Hp → VK → Prop := fun xs H Q => ∃ x d n, xs = [x, .ty n] ∧ kinds.contains n = true ∧ DV K H x d ∧ Q (.bl (isD n d)) H
theorem isiDK {K : PySem.W.Frag} (hK : X.K = K) : CallR X (.builtin "isinstance") (rIsi K) := by
  subst hK
  intro pins s σ H xs us Q I r h
  obtain ⟨x, d, n, rfl, hn, hd, q⟩ := h
  obtain ⟨u, v, rfl, ru, rv⟩ := vals2 r
  cases (show v = Value.type n from rv)
  exact isi_dv I ru hd (kit_of d n hn) fun tk => ⟨.bl _, H, I.tok tk, rfl, q⟩
end
section
variable {K : PySem.W.Frag} {H₀ : Hp} {E : XK} {te ta tb : TE} {da db de : DE} {dl dk : DL} {t : TA}
noncomputable def dIsi (n : String) (de : DE) (ex : DX) (δ : DEn) (Q : PyData → Prop) : Prop := de ex δ fun d => Q (.bool (isD n d))
theorem ev_isi {n : String} (hn : kinds.contains n = true) (h : BvD K H₀ E te de) : EvD K H₀ E (tCB (rIsi K) (tCons te (tCons (tC (.ty n)) tNil))) (dIsi n de) := fun ex δ σ G H Qd Q hx S q k =>
  h ex δ σ G H _ _ hx S q fun x d G1 H1 e1 h1 q1 => ⟨x, d, n, rfl, hn, h1, k _ _ G1 H1 e1 (.bl _) q1⟩
noncomputable def MvD (K : PySem.W.Frag) (H₀ : Hp) (E : XK) (te : TE) (dl : DL) : Prop := ∀ ex δ σ G H Qd Q, ExOk H₀ E ex → Sees K H₀ G δ σ H → dl ex δ Qd → (∀ a vs ds G' H', Ext G H G' H' → H' a = some (.lst vs) → DVs K G' vs ds → Qd ds → Q (.ref a) H') → te σ H Q
theorem mv_ov (h : OvD K H₀ E te dl) : MvD K H₀ E te dl := fun ex δ σ G H Qd Q hx S q k =>
  h ex δ σ G H _ Q hx S q fun a vs ds G' H' e hn hg hh hd qd => k a vs ds G' H' e hh hd qd
noncomputable def dMVar (i : Nat) (_ex : DX) (δ : DEn) (Q : List PyData → Prop) : Prop := match slot δ i with
  | some (.own ds) => Q ds
  | _ => False
theorem mv_var (i : Nat) : MvD K H₀ E (tVar i) (dMVar i) := fun ex δ σ G H Qd Q hx S q k => by
  unfold dMVar at q
  split at q
  · rename_i ds hs
    obtain ⟨a, vs, h1, h2, h3, h4⟩ := S.ownAt hs
    exact ⟨_, h1, k a vs ds G H S.refl h3 h4 q⟩
  · exact q.elim
noncomputable def dCat (dl dk : DL) (ex : DX) (δ : DEn) (Q : List PyData → Prop) : Prop := dl ex δ fun xs => dk ex δ fun ys => xs.length + ys.length ≤ 1000 ∧ Q (xs ++ ys)
theorem ov_cat (h1 : MvD K H₀ E ta dl) (h2 : MvD K H₀ E tb dk) : OvD K H₀ E (tOp rCat ta tb) (dCat dl dk) := fun ex δ σ G H Qd Q hx S q k =>
  h1 ex δ σ G H _ _ hx S q fun a vs ds G1 H1 e1 l1 d1 q1 => h2 ex δ σ G1 H1 _ _ hx (S.ext e1) q1 fun b ws es G2 H2 e2 l2 d2 ⟨q2, q3⟩ =>
    ⟨a, b, vs, ws, rfl, rfl, e2.h _ _ l1, l2, Nat.le_of_lt (small1000 (by rw [d1.len, d2.len]; exact q2)), fun p hp => by
      obtain ⟨e3, g3⟩ := ext_newL (xs := vs ++ ws) e2.s hp
      have e0 := e1.trans e2
      exact k p _ _ _ _ (e0.trans e3) (e0.h.free hp) g3 upd_same ((dvs_same e2.g d1).append d2) q3⟩
end
section
variable {dl : DL} {dg : DG} {db d1 d2 : DS} {e : DEnds} {δ : DEn}
theorem seq_mk (h : d1 { e with nx := d2 e } δ) : dSeq d1 d2 e δ := h
theorem cut_mk (I : DEn → Prop) (h : d1 { e with nx := I } δ) (k : ∀ δ', I δ' → d2 e δ') : dCut d1 d2 e δ := ⟨I, h, k⟩
theorem for_map {α : Type} (f : α → PyData) (xs : List α) (hl : ∀ Q, Q (xs.map f) → dl e.ex δ Q) (I : Nat → DEn → Prop) (h0 : I 0 δ)
    (hs : ∀ i x δ', xs[i]? = some x → I i δ' → dg (f x) δ' fun δ2 => db { e with nx := I (i + 1), ct := I (i + 1), bk := e.nx } δ2) (hd : ∀ δ', I xs.length δ' → e.nx δ') : dFor dl dg db e δ :=
  hl _ ⟨I, h0, fun i d δ' hi hI => by
    rw [List.getElem?_map] at hi
    cases q : xs[i]? with
    | none => rw [q] at hi; cases hi
    | some x =>
      rw [q] at hi
      cases hi
      exact hs i x δ' q hI, fun δ' hI => hd δ' (by rw [List.length_map] at hI; exact hI)⟩
theorem for_rng {lo st : Int} {n : Nat} (hl : ∀ Q, Q (rngD lo n st) → dl e.ex δ Q) (I : Nat → DEn → Prop) (h0 : I 0 δ)
    (hs : ∀ i δ', i < n → I i δ' → dg (.int (lo + (i : Int) * st)) δ' fun δ2 => db { e with nx := I (i + 1), ct := I (i + 1), bk := e.nx } δ2) (hd : ∀ δ', I n δ' → e.nx δ') : dFor dl dg db e δ :=
  hl _ ⟨I, h0, fun i d δ' hi hI => by
    obtain ⟨h1, rfl⟩ := rngD_at hi
    exact hs i δ' h1 hI, fun δ' hI => hd δ' (by rw [rngD_len] at hI; exact hI)⟩
variable {dt : DT} {de : DE} {cap : List (Option Nat)} {ex : DX} {Q : List PyData → Prop}
theorem lc_map {α β : Type} (f : α → PyData) (g : β → PyData) (F : α → List β) (xs : List α) (hlen : xs.length ≤ 1000) (hl : ∀ Q, Q (xs.map f) → dl ex δ Q)
    (hs : ∀ x ∈ xs, ∀ N : List PyData → Prop, ∀ acc, N (acc ++ (F x).map g) → dg (f x) (capD cap δ) fun δ2 => dt (fun _ => False) δ2 fun b => if b = true then de (fun _ => False) δ2 fun y => N (acc ++ [y]) else N acc)
    (hd : Q ((xs.flatMap F).map g)) : dLC dl cap dg dt de ex δ Q :=
  hl _ ⟨by rw [List.length_map]; exact hlen, fun i acc => acc = ((xs.take i).flatMap F).map g, by simp, fun i d acc hi hI => by
    rw [List.getElem?_map] at hi
    cases q : xs[i]? with
    | none => rw [q] at hi; cases hi
    | some x =>
      rw [q] at hi
      cases hi
      subst hI
      refine hs x (List.mem_of_getElem? q) (fun acc => acc = ((xs.take (i + 1)).flatMap F).map g) _ ?_
      have e : xs.take (i + 1) = xs.take i ++ [x] := by
        rw [List.take_add_one, q]; rfl
      rw [e]
      simp, fun acc hI => by
    subst hI
    rw [List.length_map, List.take_of_length_le (Nat.le_refl _)]
    exact hd⟩
end
noncomputable abbrev DXS := DEn → Addr → Prop
noncomputable abbrev DSX := DEnds → DXS → DEn → Prop
structure LkX (K : PySem.W.Frag) (H₀ G : Hp) (xd : DXS) (XE : XS) : Prop where
  ex : ∀ δ σ C G' H, Same G G' → Sees K H₀ G' δ σ H → xd δ C → XE σ (.ref C) none H
theorem LkX.mono {K : PySem.W.Frag} {H₀ G G1 : Hp} {xd : DXS} {XE : XS} (L : LkX K H₀ G xd XE) (s : Same G G1) : LkX K H₀ G1 xd XE := ⟨fun δ σ C G' H t => L.ex δ σ C G' H (s.trans t)⟩
noncomputable def SxD (K : PySem.W.Frag) (H₀ : Hp) (tb : TSX) (d : DSX) : Prop := ∀ δ σ G H e D xd XE, Sees K H₀ G δ σ H → d e xd δ → Lk K H₀ G e D → LkX K H₀ G xd XE → tb D XE σ H
noncomputable abbrev nox (e : DEnds) : DEnds := { e with ex := fun _ => False }
theorem Lk.nox {K : PySem.W.Frag} {H₀ G : Hp} {e : DEnds} {D : Ends} (L : Lk K H₀ G e D) : Lk K H₀ G (nox e) D := ⟨L.nx, L.rt, L.bk, L.ct⟩
section
variable {K : PySem.W.Frag} {H₀ : Hp} {E : XK} {t : TA} {dl : DL} {ts : TS} {ds : DS} {tb tc : TSX} {db dc : DSX} {tt : TT} {dt : DT}
noncomputable def xIf (dt : DT) (db dc : DSX) (e : DEnds) (xd : DXS) (δ : DEn) : Prop := dt (fun _ => False) δ fun b => if b = true then db e xd δ else dc e xd δ
theorem sx_if (h : TvD K H₀ E0 tt dt) (h1 : SxD K H₀ tb db) (h2 : SxD K H₀ tc dc) : SxD K H₀ (fun D E σ H => tt σ H fun d H1 => if d = true then tb D E σ H1 else tc D E σ H1) (xIf dt db dc) := fun δ σ G H e D xd XE S q L LX =>
  h (fun _ => False) δ σ G H _ _ exok0 S q fun b G' H' x qb => by
    cases b with
    | true => exact h1 δ σ G' H' e D xd XE (S.ext x) qb (L.mono x.g) (LX.mono x.g)
    | false => exact h2 δ σ G' H' e D xd XE (S.ext x) qb (L.mono x.g) (LX.mono x.g)
noncomputable def xCallD (w : DW) (dl : DL) (e : DEnds) (xd : DXS) (δ : DEn) : Prop := dl (fun _ => False) δ fun ds => w ds (fun _ => e.nx δ) (fun C => xd δ C)
theorem sx_call {w : DW} (ha : AvD K H₀ E0 t dl) : SxD K H₀ (xCall (spW K w) t) (xCallD w dl) := fun δ σ G H e D xd XE S q L LX =>
  ha (fun _ => False) δ σ G H _ _ exok0 S q fun vs ds G1 H1 e1 h1 q1 => ⟨ds, _, _, h1, q1, fun v s H2 sm r qs => by
      have e2 := e1.trans (ext_grow e1.s sm)
      exact L.nx δ σ _ H2 e2.g (S.ext e2) qs, fun C H2 sm hc => by
      have e2 := e1.trans (ext_grow e1.s sm)
      exact LX.ex δ σ C _ H2 e2.g (S.ext e2) hc⟩
end
section
variable {K : PySem.W.Frag} {H₀ : Hp} {E : XK} {t : TA} {dl : DL} {ts : TS} {ds : DS} {tb tc : TSX} {db dc : DSX}
noncomputable def forget (i : Nat) (e : DEnds) : DEnds := { nx := fun δ => e.nx (put none i δ), rt := e.rt, ex := fun _ => False, bk := fun δ => e.bk (put none i δ), ct := fun δ => e.ct (put none i δ) }
noncomputable def dTryAs (M : Addr → Prop) (db : DSX) (i : Nat) (ds : DS) (e : DEnds) (δ : DEn) : Prop := db e (fun δ' C => M C ∧ ds (forget i e) (put (some (.exc C)) i δ')) δ
theorem sv_tryAs {cv : Value} {i : Nat} (hb : SxD K H₀ tb db) (hs : SvD K H₀ E0 ts ds) : SvD K H₀ E (tTryAs K cv tb i ts) (dTryAs (fun C => PySem.W.exmOne K (.ref C) cv = some true) db i ds) := fun δ σ G H e D hx S q L =>
  hb δ σ G H e D _ _ S q L ⟨fun δ' σ' C G' H' s S' ⟨m, q'⟩ => ⟨m, C, rfl, fun x hx0 => by
    have e2 := ext_newO (o := .ext (IsExc x C)) S'.sub hx0
    have S2 : Sees K H₀ (upd G' x (.ext (IsExc x C))) (put (some (.exc C)) i δ') (σ'.set i (some (.ref x))) (upd H' x (.ext (IsExc x C))) := (S'.ext e2).setS i (s := .exc C) ⟨x, rfl, upd_same⟩ fun _ _ _ _ z => nomatch z
    have L2 := (L.mono s).mono e2.g
    exact hs _ _ _ _ (forget i e) _ exok0 S2 q' ⟨fun δ4 σ4 G4 H4 s4 S4 q4 => L2.nx _ _ G4 H4 s4 (S4.unset i) q4, L2.rt, fun δ4 σ4 G4 H4 s4 S4 q4 => L2.bk _ _ G4 H4 s4 (S4.unset i) q4, fun δ4 σ4 G4 H4 s4 S4 q4 => L2.ct _ _ G4 H4 s4 (S4.unset i) q4⟩⟩⟩
noncomputable def dIsX (i : Nat) (C : Addr) (b : Bool) (_ex : DX) (δ : DEn) (Q : PyData → Prop) : Prop := match slot δ i with
  | some (.exc C') => C' = C ∧ Q (.bool b)
  | _ => False
theorem ev_isX {i : Nat} {C : Addr} {c : V} {cv : Value} {b : Bool} {bmB : List Value} {newId : String} (hc : ∀ u, RelV c u → u = cv) (hx : PySem.W.excIn K C bmB newId = true) (hk : ExcK K C) (hkit : PySem.W.kitOne K (.ref C) cv = some b) :
    EvD K H₀ E (tCB (fun xs H Q => ∃ x C c cv b bmB newId, xs = [.ref x, c] ∧ (∀ u, RelV c u → u = cv) ∧ H x = some (.ext (IsExc x C)) ∧ PySem.W.excIn K C bmB newId = true ∧ ExcK K C ∧ PySem.W.kitOne K (.ref C) cv = some b ∧ Q (.bl b) H) (tCons (tVar i) (tCons (tC c) tNil))) (dIsX i C b) := fun ex δ σ G H Qd Q hxx S q k => by
  unfold dIsX at q
  split at q
  · rename_i C' hs
    obtain ⟨rfl, q⟩ := q
    obtain ⟨v, h1, x, rfl, h2⟩ := S.has i _ hs
    exact ⟨_, h1, x, C', c, cv, b, bmB, newId, rfl, hc, S.sub.same _ _ h2, hx, hk, hkit, k _ _ G H S.refl (.bl b) q⟩
  · exact q.elim
end
noncomputable def wLaw : DW := fun ds Q _ => ∃ ns : List Int, ds = [.list (ns.map .int)] ∧ ns.length ≤ 63 ∧ (∀ v ∈ ns, Builtin.Int.intBits v ≤ 1048576) ∧ Q (.dat (.bool true))
theorem dvs_of_ints {K : PySem.W.Frag} {H : Hp} : ∀ ns : List Int, DVs K H (ns.map V.int) (ns.map PyData.int)
  | [] => .nil
  | n :: ns => .cons (.int n) (dvs_of_ints ns)
theorem law_of {P : Program} {w : World} {K : PySem.W.Frag} {mg : Str → Option Value} {base : Heap} {k : Nat} {f : Addr} {fd : FuncData} {ps : List Str} (F : FnOk P w K mg base (CXE P w) k f fd ps (spW K wLaw)) : FnOk P w K mg base (CXE P w) k f fd ps (spLaw K) :=
  F.imp fun vs H Q E ⟨a, ns, e, hS, hl, hb, _, q⟩ => by
    subst e
    refine ⟨[.list (ns.map .int)], fun s => s = .dat (.bool true), fun _ => False, .cons (.lst hS (dvs_of_ints ns)) .nil, ⟨ns, rfl, hl, hb, rfl⟩, fun v s H' _ r hs => ?_, fun _ _ _ z => z.elim⟩
    subst hs
    cases dv_bl r
    exact q H'
section
variable {X : Cx} {pins : List (Addr × Obj)} {σ : L2.St} {H : Hp} {s : Shared} {h' : Heap}
end
section
variable {X : Cx} {K : PySem.W.Frag}
end
section
variable {X : Cx} {K : PySem.W.Frag}
end
section
variable {K : PySem.W.Frag} {H₀ : Hp} {E : XK} {te ta tb : TE} {da db de : DE} {dl dk : DL} {t : TA}
end
section
variable {prog : Program} {w : World} {A : Around} {E : Value → Shared → Prop} {s : Shared}
end
section
variable {prog : Program} {w : World} {A : Around} {s : Shared} {R : Result → Shared → Prop}
variable {I : Addr} {fp wr : List Addr} {G : Array GenState → Array GenState → Prop} {n : Nat} {P : Nat → Value → Prop} {St : Nat → Shared → Prop}
end
section
variable {prog : Program} {w : World} {A : Around} {E : Value → Shared → Prop} {s : Shared}
end
section
variable {X : Cx} {pins : List (Addr × Obj)} {σ : L2.St} {H : Hp} {s : Shared}
end
section
variable {X : Cx} {K : PySem.W.Frag}
end
section
variable {K : PySem.W.Frag} {H₀ : Hp} {E : XK} {te : TE} {dl : DL}
end
end Dl
namespace Dl
open PySem PySem.Spec PyProof.Rows L2 Lx PySem.W
noncomputable def AllT {α : Type} (N : Nat) (P : α → Prop) : KasT α → Prop
  | .ret a => P a
  | .ask i j k => i < N ∧ j < N ∧ ∀ b, AllT N P (k b)
theorem AllT.mono {α : Type} {N : Nat} {P Q : α → Prop} (hf : ∀ a, P a → Q a) : ∀ {t : KasT α}, AllT N P t → AllT N Q t
  | .ret a, h => hf a h
  | .ask i j k, h => ⟨h.1, h.2.1, fun b => AllT.mono hf (h.2.2 b)⟩
section
variable {prog : Program} {w : World} {A : Around} {E : Value → Shared → Prop} {s : Shared}
end
section
variable {X : Cx} {K : PySem.W.Frag}
end
section
variable {K : PySem.W.Frag} {H₀ : Hp} {E : XK} {te ta : TE} {de da : DE} {dl : DL}
end
section
variable {X : Cx}
end
section
variable {K : PySem.W.Frag} {H₀ : Hp} {E : XK} {te ta : TE} {de da : DE} {dl : DL}
end
section
variable {X : Cx} {K : PySem.W.Frag}
end
section
variable {K : PySem.W.Frag} {H₀ : Hp} {E : XK} {ta tb : TE} {db : DE} {dl : DL}
end
section
variable {X : Cx} {K : PySem.W.Frag}
end
section
variable {K : PySem.W.Frag}
end
noncomputable def rBools (K : PySem.W.Frag) (f : List Bool → Bool) : List V → Hp → VK → Prop := fun xs H Q => ∃ (p : Addr) (bs : List Bool), xs = [.ref p] ∧ SqL K H p (bs.map V.bl) ∧ Q (.bl (f bs)) H
theorem bools_vals : ∀ {bs : List Bool} {us : List Value}, Vals (bs.map V.bl) us → LSm.BoolsAre us bs
  | [], _, .nil => .nil
  | b :: bs, _, .cons r t => by
    cases (show _ = Value.bool b from r)
    exact .cons b (bools_vals t)
section
variable {X : Cx} {K : PySem.W.Frag}
theorem allK (hK : X.K = K) (hc : X.calm = true) : CallR X (.builtin "all") (rBools K (·.all id)) := by
  subst hK
  intro pins s σ H xs us Q I r h
  obtain ⟨p, bs, rfl, hq, q⟩ := h
  obtain ⟨u, rfl, rx⟩ := vals1 r
  cases rx
  obtain ⟨its, r', pl, hz⟩ := I.list hq
  have hb := bools_vals r'
  have hl : s.heap.IsList p its.toArray := pl.isList
  have hlt : p < s.heap.objs.size := by obtain ⟨_, e, _⟩ := hl; exact Heap.lt_size e
  refine call_all_walk (wpAny_pyIter_list hl ?_)
  refine ⟨s.heap.objs.size, [s.heap.objs.size, p], [s.heap.objs.size], its.toArray.size, _, _, fun i => (bs[i]?).getD true, rfl, Walks.list (A := X.A.in1) (I.ok.hd hc) _ p (Nat.ne_of_lt hlt) its.toArray,
    ⟨⟨_, Heap.get?_push_size _ rfl, rfl, rfl⟩, hl.push _⟩, fun i v s' Q' E' hP hQ => ?_, fun h' tk hk => ?_⟩
  · obtain ⟨b, e, rfl⟩ := hb.get i v (by simpa using hP)
    simp only [e, Option.getD_some] at hQ
    exact wpAny_truthy_bool hQ
  · have e : ((List.range its.toArray.size).all fun i => (bs[i]?).getD true) = bs.all id := by
      rw [List.size_toArray, hb.length]; exact LSm.range_all bs
    rw [e]
    exact ⟨.bl _, H, I.kept (t' := tk) (LSm.kept_iter hk), rfl, q⟩
end
noncomputable def bAll (ds : List PyData) (Q : PyData → Prop) : Prop := match ds with
  | [.list bs] => ∃ ks : List Bool, bs = ks.map PyData.bool ∧ Q (.bool (ks.all id))
  | _ => False
section
variable {K : PySem.W.Frag}
theorem dvs_bools {H : Hp} : ∀ {ks : List Bool} {xs : List V}, DVs K H xs (ks.map PyData.bool) → xs = ks.map V.bl
  | [], _, .nil => rfl
  | k :: ks, _, .cons h t => by rw [dv_bl h, dvs_bools t]; rfl
theorem rb_all : RCb K (rBools K (·.all id)) bAll := by
  intro G H xs ds Qd Q hx q k
  unfold bAll at q
  split at q
  · obtain ⟨ks, rfl, q⟩ := q
    obtain ⟨x, rfl, hd⟩ := dvs1 hx
    obtain ⟨a, vs, rfl, h1, h2⟩ := dv_list hd
    rw [dvs_bools h2] at h1
    exact ⟨a, ks, rfl, h1, k _ _ (.bl _) q⟩
  · exact q.elim
end
theorem boot_all : bootBuiltins "all" = some (.builtin "all") := by decide +kernel
section
variable {prog : Program} {w : World} {A : Around} {E : Value → Shared → Prop}
end
section
variable {X : Cx} {K : PySem.W.Frag}
end
section
variable {K : PySem.W.Frag} {H₀ : Hp}
end
local macro_rules | `(tactic| walk_at "o") => `(tactic| first | omega | (refine (fun (h : @Eq Nat _ _) => ?_); omega))
section
variable {prog : Program} {w : World} {A : Around} {E : Value → Shared → Prop} {s : Shared}
end
section
variable {prog : Program} {w : World} {A : Around} {E : Value → Shared → Prop} {s : Shared}
end
section
variable {X : Cx} {K : PySem.W.Frag}
end
section
variable {K : PySem.W.Frag} {H₀ : Hp} {E : XK} {ta tb tc : TE} {da db dc : DE} {dl dk dm : DL}
end
section
variable {K : PySem.W.Frag} {H₀ : Hp} {E : XK} {te ta tb : TE} {da db de : DE} {ts : TS} {ds : DS}
end
section
variable {K : PySem.W.Frag} {H₀ : Hp} {E : XK} {dl : DL} {tt : TT} {dt : DT} {ts : TS} {ds : DS} {g : TG} {dg : DG} {ns : List Nat}
end
noncomputable def d2 (dl dk : DL) (ex : DX) (δ : DEn) (Q : List PyData → List PyData → Prop) : Prop := dl ex δ fun xs => dk ex δ fun ys => Q xs ys
section
variable {K : PySem.W.Frag} {H₀ : Hp} {E : XK} {ta tb : TE} {dl dk : DL} {t : TA}
end
section
variable {K : PySem.W.Frag} {H₀ : Hp} {E : XK}
end
section
variable {K : PySem.W.Frag} {H₀ : Hp} {E : XK} {tb : TE} {db : DE} {dl : DL} {t : TA} {g : TG} {dg : DG} {ns : List Nat}
end
end Dl
namespace Lx
open PySem PySem.Spec PyProof.Rows L2
structure LcOk1 (X : Cx) (scope : Scope) (x : Str) (cl : List (Str × Addr)) (cap : List (Option Nat)) (NC : List Str) : Prop where
  clos : closureFor scope X.env = pure cl
  kind : scope.kind = .function
  one : ∀ n, cellsFrom n scope.names cl = (x, n) :: cl
  push : ∀ h, pushCells h scope.names = h.push { cls := .type "cell", data := .cell none }
  fresh : cl.lookup x = none
  names : ∀ x ∈ scope.names, x.2 = .local → scope.names.lookup x.1 = some .local
  caps : CapsOk X scope cl cap NC
  cells : ∀ p ∈ cl, X.env.cells.lookup p.1 = some p.2
  has : ∀ c : Addr, ((relabel scope X.env).names.all fun p => (p.2 != .cell && p.2 != .free) || (((x, c) :: cl).lookup p.1).isSome) = true
section
variable {X : Cx} {elt target iter : Expr} {ifs : List Expr} {scope : Scope} {pos : Pos} {wi : TI} {cap : List (Option Nat)} {NC : List Str} {cl : List (Str × Addr)} {g : TG} {tt : TT} {te : TE} {x0 : Str}
end
end Lx
namespace Dl
open PySem PySem.Spec PyProof.Rows L2 Lx
section
variable {K : PySem.W.Frag} {H₀ : Hp} {E : XK} {te : TE} {de : DE} {dl : DL} {ta : TA}
noncomputable def AvN (K : PySem.W.Frag) (H₀ : Hp) (E : XK) (ta : TA) (n : Nat) (dl : DL) : Prop := ∀ ex δ σ G H Qd Q, ExOk H₀ E ex → Sees K H₀ G δ σ H → dl ex δ Qd → (∀ vs ds G' H', Ext G H G' H' → DVs K H' vs ds → ds.length = n → Qd ds → Q vs H') → ta σ H Q
theorem an_nil : AvN K H₀ E tNil 0 dNil := fun ex δ σ G H Qd Q hx S q k => k [] [] G H S.refl .nil rfl q
theorem an_cons {n : Nat} (h : BvD K H₀ E te de) (t : AvN K H₀ E ta n dl) : AvN K H₀ E (tCons te ta) (n + 1) (dCons de dl) := fun ex δ σ G H Qd Q hx S q k =>
  h ex δ σ G H _ _ hx S q fun v d G1 H1 e1 hd q1 => t ex δ σ G1 H1 _ _ hx (S.ext e1) q1 fun vs ds G2 H2 e2 hds hn q2 =>
    k (v :: vs) (d :: ds) G2 H2 (e1.trans e2) (.cons (dv_same e2.h hd) hds) (by rw [List.length_cons, hn]) q2
end
section
variable {X : Cx}
end
section
variable {K : PySem.W.Frag} {H₀ : Hp} {E : XK} {te : TE} {de : DE} {dl : DL} {t : TA} {tt : TT} {dt : DT} {ts tz : TS} {ds dz : DS}
end
noncomputable abbrev IsZ (h : Heap) (z TI TO : Addr) (f0 f1 : Value) : Prop := h.get? z = some { cls := .type "zip", dict := none, data := .fields #[f0, f1, .bool false, .ref TI, .ref TO], slots := #[] }
section
variable {prog : Program} {w : World} {A : Around} {E : Value → Shared → Prop} {s : Shared}
structure ZSt (h : Heap) (z TI TO i1 i2 l1 l2 base : Addr) (i : Nat) (xs ys : Array Value) : Prop where
  z : IsZ h z TI TO .none (.bool false) ∨ ∃ (T : Addr) (b : Bool) (o : Obj), IsZ h z TI TO (rawInt (T : Int)) (.bool b) ∧ base ≤ T ∧ h.get? T = some o
  ti : IsPair h TI (.ref i1) (.ref i2)
  to : ∃ a b, IsPair h TO a b
  i1 : h.IsListIter i1 l1 i
  i2 : h.IsListIter i2 l2 i
  l1 : h.IsList l1 xs
  l2 : h.IsList l2 ys
end
section
variable {prog : Program} {w : World} {A : Around} {R : Result → Shared → Prop}
end
section
variable {prog : Program} {w : World} {A : Around} {s : Shared} {R : Result → Shared → Prop}
variable {z TI TO i1 i2 l1 l2 S base n : Nat} {xs ys : Array Value}
end
section
variable {prog : Program} {w : World} {A : Around} {E : Value → Shared → Prop} {s : Shared}
end
section
variable {X : Cx} {K : PySem.W.Frag}
end
section
variable {K : PySem.W.Frag} {H₀ : Hp} {E : XK} {ta tb : TE} {dl dk : DL}
end
section
variable {X : Cx} {K : PySem.W.Frag}
end
section
variable {X : Cx} {K : PySem.W.Frag}
end
section
variable {K : PySem.W.Frag} {H₀ : Hp} {E : XK} {te ta tb : TE} {da de : DE} {dl dk : DL}
end
section
variable {K : PySem.W.Frag} {H₀ : Hp} {E : XK} {dl : DL} {t : TA} {g : TG} {dg : DG} {ns : List Nat}
end
section
variable {X : Cx} {K : PySem.W.Frag}
end
section
variable {K : PySem.W.Frag} {H₀ : Hp} {E : XK} {te ta tb : TE} {da db : DE} {dl : DL}
end
section
variable {prog : Program} {w : World} {A : Around} {E : Value → Shared → Prop} {s : Shared}
end
section
variable {prog : Program} {w : World} {A : Around} {E : Value → Shared → Prop} {s : Shared}
end
section
variable {X : Cx} {K : PySem.W.Frag}
end
section
variable {K : PySem.W.Frag} {H₀ : Hp} {E : XK} {ta tb : TE} {da db : DE}
end
section
variable {K : PySem.W.Frag} {H₀ : Hp} {E : XK} {te : TE} {de : DE} {dl : DL} {t : TA} {ts tz : TS} {ds : DS} {w : DW}
end
section
variable {K : PySem.W.Frag} {H₀ : Hp} {E : XK} {ta tb : TE} {da db : DE}
end
section
variable {K : PySem.W.Frag} {H₀ : Hp} {E : XK} {ta tb tc : TE} {da db dc : DE} {f g : Int → Int → Bool}
end
section
variable {X : Cx} {e es : Expr} {te : TE} {ts : TO} {pos p2 : Pos}
end
section
variable {K : PySem.W.Frag} {H₀ : Hp} {E : XK} {te : TE} {dl : DL} {t1 : TO} {d1 : DO}
end
section
variable {K : PySem.W.Frag} {H₀ : Hp} {E : XK}
end
section
variable {K : PySem.W.Frag} {H₀ : Hp} {E : XK} {te : TE} {de : DE} {dl : DL} {t : TA} {ts tz : TS} {ds : DS} {w : DW}
end
section
variable {K : PySem.W.Frag} {H₀ : Hp} {E : XK} {te ta tb : TE} {de da db : DE} {t1 t2 : TO} {d1 d2 : DO}
end
section
variable {K : PySem.W.Frag} {H₀ : Hp} {E : XK} {tb : TE} {db : DE} {dl : DL} {t : TA} {g : TG} {dg : DG} {ns : List Nat}
end
section
variable {K : PySem.W.Frag} {H₀ : Hp} {E : XK} {te : TE} {de : DE} {ta : TA} {dl : DL} {ts : TS} {ds : DS} {g : TG} {dg : DG} {ns : List Nat}
noncomputable def dLstB (dl : DL) (ex : DX) (δ : DEn) (Q : PyData → Prop) : Prop := dl ex δ fun ds => Q (.list ds)
theorem bv_lst {n : Nat} (h : AvN K H₀ E ta n dl) (hn : n ≤ 1000) : BvD K H₀ E (tLst ta) (dLstB dl) := fun ex δ σ G H Qd Q hx S q k =>
  h ex δ σ G H _ _ hx S q fun vs ds G1 H1 e1 hd q0 q1 => ⟨Nat.le_of_lt (small1000 (by rw [hd.len, q0]; exact hn)), fun p hp => by
    obtain ⟨e2, hg⟩ := ext_newL (xs := vs) e1.s hp
    exact k (.ref p) (.list ds) _ _ (e1.trans e2) (.lst (SqL.of upd_same) (dvs_same e2.h hd)) q1⟩
noncomputable def dForN (de : DE) (dg : DG) (db : DS) (e : DEnds) (δ : DEn) : Prop := de e.ex δ fun d => noOwn δ = true ∧ match d with
  | .list ds => ∃ I : Nat → DEn → Prop, I 0 δ ∧ (∀ i d δ', ds[i]? = some d → I i δ' → dg d δ' fun δ2 => db { e with nx := I (i + 1), ct := I (i + 1), bk := e.nx } δ2) ∧ ∀ δ', I ds.length δ' → e.nx δ'
  | _ => False
theorem sv_forN (h : BvD K H₀ E te de) (hg : GvD K H₀ g ns dg) (hb : SvD K H₀ E ts ds) : SvD K H₀ E (tFor (iList K te) g ts) (dForN de dg ds) := fun δ σ G H e D hx S q L =>
  h e.ex δ σ G H _ _ hx S q fun v d G1 H1 e1 hd ⟨no, qd⟩ => by
    have S1 := (S.ext e1).all2 no (Same.refl _)
    have gg : Same G H1 := e1.g.trans e1.s.same
    cases d with
    | list xs =>
      obtain ⟨I, i0, step, fin⟩ := qd
      obtain ⟨a, vs, rfl, h1, h2⟩ := dv_list hd
      refine ⟨a, rfl, ⟨vs, h1⟩, ?_⟩
      have it : ∀ G' H', Same H1 G' → Sub G' H' → SqL K H' a vs := fun G' H' s1 s2 => s2.same.seq (s1.seq h1)
      refine ⟨fun i m σ H => m = xs.length - i ∧ i ≤ xs.length ∧ ∃ δ' G', Same H1 G' ∧ Sees K H₀ G' δ' σ H ∧ I i δ', ⟨_, rfl, Nat.zero_le _, δ, H1, Same.refl _, S1, i0⟩, ?_⟩
      rintro i m σ' H' ⟨rfl, hil, δ', G', sg, S', hI⟩
      have hs := it G' H' sg S'.sub
      by_cases hlt : i < xs.length
      · obtain ⟨x, g1, g2⟩ := h2.at (List.getElem?_eq_getElem hlt)
        refine .inr ⟨⟨vs, x, hs, g1⟩, fun σ H => ∃ δ' G', Same H1 G' ∧ Sees K H₀ G' δ' σ H ∧ I (i + 1) δ', fun σ2 H2 z => ⟨_, by omega, rfl, hlt, z⟩, fun y H2 ⟨z, w⟩ => ?_⟩
        subst z
        have := w vs hs
        rw [g1] at this
        cases this
        refine hg _ _ δ' σ' G' _ _ _ S' (dv_same sg g2) (step i _ δ' (List.getElem?_eq_getElem hlt) hI) fun δ3 σ3 S3 _ q3 => ?_
        exact hb δ3 σ3 G' _ { e with nx := I (i + 1), ct := I (i + 1), bk := e.nx } _ hx S3 q3 ⟨fun δ4 σ4 G4 H4 s4 S4 q4 => ⟨δ4, G4, sg.trans s4, S4, q4⟩, L.rt, fun δ4 σ4 G4 H4 s4 S4 q4 => L.nx δ4 σ4 G4 H4 (gg.trans (sg.trans s4)) S4 q4, fun δ4 σ4 G4 H4 s4 S4 q4 => ⟨δ4, G4, sg.trans s4, S4, q4⟩⟩
      · have : i = xs.length := by omega
        subst this
        exact .inl ⟨⟨vs, hs, by rw [h2.len]; exact Nat.le_refl _⟩, L.nx δ' σ' G' H' (gg.trans sg) S' (fin δ' hI)⟩
    | _ => exact qd.elim
end
section
variable {X : Cx}
end
section
variable {K : PySem.W.Frag} {H₀ : Hp} {E : XK} {te : TE} {de : DE} {dl : DL} {t : TA} {tt : TT} {dt : DT} {ts tz : TS} {ds dz : DS}
end
section
variable {K : PySem.W.Frag} {H₀ : Hp} {E : XK}
end
theorem boot_str : bootBuiltins "str" = some (.type "str") := by decide +kernel
theorem txtL {n : Nat} (h : n ≤ 100000) : n < sizeLine := Nat.lt_of_le_of_lt h (by decide)
section
variable {X : Cx}
noncomputable def rSlS : V → Option Int → Option Int → Hp → VK → Prop := fun x lo hi H Q => ∃ z, x = .str z ∧ z.length ≤ sizeLine ∧ Q (.str (PySem.Txt.slice z lo hi)) H
theorem sl_str : SlR X rSlS := by
  intro pins s σ H x v vl vu lo hi sl Q I rx hs pl pu h
  obtain ⟨z, rfl, hz, q⟩ := h
  obtain ⟨t, rfl⟩ := rx
  refine ⟨"str", _, slot_str_getitem.lookup, typeIs_str _ _ _, ?_⟩
  cases pl with
  | none =>
    cases pu with
    | none => exact wpAny_getItem_str_slice (l := none) (u := none) (st := none) hs rfl (post_val_or_str ⟨Nat.le_trans (PySem.Txt.slice_le z none none) hz, fun t' k => ⟨.str _, H, I.tok _, ⟨_, rfl⟩, q⟩⟩)
    | int j uj => exact wpAny_getItem_str_slice (l := none) (u := some (j, uj)) (st := none) hs rfl (post_val_or_str ⟨Nat.le_trans (PySem.Txt.slice_le z none (some j)) hz, fun t' k => ⟨.str _, H, I.tok _, ⟨_, rfl⟩, q⟩⟩)
  | int i ui =>
    cases pu with
    | none => exact wpAny_getItem_str_slice (l := some (i, ui)) (u := none) (st := none) hs rfl (post_val_or_str ⟨Nat.le_trans (PySem.Txt.slice_le z (some i) none) hz, fun t' k => ⟨.str _, H, I.tok _, ⟨_, rfl⟩, q⟩⟩)
    | int j uj => exact wpAny_getItem_str_slice (l := some (i, ui)) (u := some (j, uj)) (st := none) hs rfl (post_val_or_str ⟨Nat.le_trans (PySem.Txt.slice_le z (some i) (some j)) hz, fun t' k => ⟨.str _, H, I.tok _, ⟨_, rfl⟩, q⟩⟩)
noncomputable def rFind : V → List V → Hp → VK → Prop := fun x vs H Q => ∃ z y, x = .str z ∧ vs = [.str y] ∧ Q (.int (PySem.Txt.find z y)) H
theorem mt_find : MtR X "str.find" rFind := by
  intro pins s σ H x xs v us Q I rx rs h
  obtain ⟨z, y, rfl, rfl, q⟩ := h
  obtain ⟨t, rfl⟩ := rx
  obtain ⟨u, rfl, t', rfl⟩ := vals1 rs
  exact call_gives PySem.F.slot_str_find (typeIs_str _ _ _) PySem.F.entry_str_find (PySem.F.args_str_find_2 _ _) (gives_str_find z y t t') ⟨.int _, H, I.tok _, ⟨_, rfl⟩, q⟩
noncomputable def rPartition : V → List V → Hp → VK → Prop := fun x vs H Q => ∃ z y, x = .str z ∧ vs = [.str y] ∧ z.length ≤ sizeLine ∧ (y.length == 0) = false ∧
  ∀ p, H p = none → Q (.ref p) (upd H p (.tup [.str (PySem.Txt.partition z y).1, .str (PySem.Txt.partition z y).2.1, .str (PySem.Txt.partition z y).2.2]))
theorem mt_partition : MtR X "str.partition" rPartition := by
  intro pins s σ H x xs v us Q I rx rs h
  obtain ⟨z, y, rfl, rfl, hz, hy, q⟩ := h
  obtain ⟨t, rfl⟩ := rx
  obtain ⟨u, rfl, t', rfl⟩ := vals1 rs
  refine call_meets PySem.F.slot_str_partition (typeIs_str _ _ _) PySem.F.entry_str_partition (PySem.F.args_str_partition_2 _ _) (meets_str_partition z y t t' hy hz) ?_
  have q' := q _ (I.hok.fresh (Nat.le_refl _))
  unfold PySem.Txt.partition at q'
  revert q'
  cases Builtin.Str.occurrences z y 0 z.length 1 with
  | nil =>
    intro q'
    exact ⟨.ref s.heap.objs.size, _, I.laid (t' := s.toks + 1) (o := .tup [.str z, .str Str.empty, .str Str.empty]) (fun b ob q => Heap.get?_push_of_some _ q) (Nat.le_refl _)
      ⟨Nat.le_of_lt (small1000 (show 3 ≤ 1000 by decide)), _, .cons ⟨_, rfl⟩ (.cons ⟨_, rfl⟩ (.cons ⟨_, rfl⟩ .nil)), IsTup.new _ _⟩, rfl, q'⟩
  | cons i r =>
    intro q'
    exact ⟨.ref s.heap.objs.size, _, I.laid (t' := s.toks + 1 + 1) (o := .tup [.str (Builtin.Str.strSub z 0 i), .str y, .str (Builtin.Str.strSub z (i + y.length) z.length)]) (fun b ob q => Heap.get?_push_of_some _ q) (Nat.le_refl _)
      ⟨Nat.le_of_lt (small1000 (show 3 ≤ 1000 by decide)), _, .cons ⟨_, rfl⟩ (.cons ⟨_, rfl⟩ (.cons ⟨_, rfl⟩ .nil)), IsTup.new _ _⟩, rfl, q'⟩
theorem call_intS : CallR X (.type "int") (fun xs H Q => ∃ z n, xs = [.str z] ∧ z.length ≤ 640 ∧ PySem.intText? z = some n ∧ Q (.int n) H) := by
  intro pins s σ H xs us Q I r h
  obtain ⟨z, n, rfl, hl, hn, q⟩ := h
  obtain ⟨u, rfl, t, rfl⟩ := vals1 r
  exact PySem.W.KIN.call_text hn hl ⟨.int n, H, I.tok _, ⟨_, rfl⟩, q⟩
noncomputable def Its (z : Str) : It := ⟨fun i _ => i < z.cps.size, fun i H x H' => H' = H ∧ ∃ c, z.cps[i]? = some c ∧ x = .str ⟨#[c]⟩, fun i _ => z.cps.size ≤ i⟩
theorem turn_str {P : Program} {w : World} {K : PySem.W.Frag} {tg : Expr} (it : Addr) (z : Str) (t : Tok) (ty : String) (hty : ty = "str_ascii_iterator" ∨ ty = "str_iterator") :
    Turn P w K tg (Its z) [it] it (fun i h => h.IsStrIter it ty z t i) where
  mem := by simp
  obj := fun i h st b hb => by
    have e : b = it := by simpa using hb
    subst e
    obtain ⟨o, e, c, d⟩ := st
    exact ⟨o, e, fun v z => by rw [d] at z; cases z⟩
  keep := fun i h h' st k => let ⟨o, ho, r⟩ := st; ⟨o, k it (by simp) o ho, r⟩
  item := by
    intro X hP hw hK hc i pins s σ H E I hf st hg
    subst hP hw hK
    obtain ⟨f0, f1, f2, f3, f4, f5⟩ := hf it (by simp)
    obtain ⟨c, hx⟩ : ∃ c, z.cps[i]? = some c := ⟨_, Array.getElem?_eq_getElem hg⟩
    rcases hty with rfl | rfl
    · refine wpAny_pyNext_ascii_item st hx fun h' st' sb => ?_
      have I1 : Inv X pins σ H { s with heap := h', toks := s.toks + 1 } := I.turned (fun b o hb e => (sb.2 b hb).trans e) f0 f1 f3 f4 f5
      obtain ⟨o, e, c', d⟩ := id st'
      exact ⟨_, rfl, go_of (s := { s with heap := h', toks := s.toks + 1 }) e c' d (by decide) ⟨.str ⟨#[c]⟩, H, I1, ⟨_, rfl⟩, ⟨rfl, c, hx, rfl⟩, st', fun b hb => (hf b hb).1⟩⟩
    · refine wpAny_pyNext_wide_item st hx fun h' st' sb => ?_
      have I1 : Inv X pins σ H { s with heap := h', toks := s.toks + 1 } := I.turned (fun b o hb e => (sb.2 b hb).trans e) f0 f1 f3 f4 f5
      obtain ⟨o, e, c', d⟩ := id st'
      exact ⟨_, rfl, go_of (s := { s with heap := h', toks := s.toks + 1 }) e c' d (by decide) ⟨.str ⟨#[c]⟩, H, I1, ⟨_, rfl⟩, ⟨rfl, c, hx, rfl⟩, st', fun b hb => (hf b hb).1⟩⟩
  done := by
    intro X hP hw hK hc i pins s σ H E I hf st hg
    subst hP hw hK
    obtain ⟨f0, f1, f2, f3, f4, f5⟩ := hf it (by simp)
    have hx : z.cps[i]? = none := Array.getElem?_eq_none hg
    rcases hty with rfl | rfl
    · exact wpAny_pyNext_ascii_end (I.ok.hd hc) st hx fun h' eb => ⟨rfl, I.turned (t' := s.toks) (fun b o hb e => eb b o hb e) f0 f1 f3 f4 f5⟩
    · exact wpAny_pyNext_wide_end (I.ok.hd hc) st hx fun h' eb => ⟨rfl, I.turned (t' := s.toks) (fun b o hb e => eb b o hb e) f0 f1 f3 f4 f5⟩
  self := fun _ _ _ _ _ st h => by
    rcases hty with rfl | rfl
    · exact wpAny_pyIter_striter_ascii st h
    · exact wpAny_pyIter_striter_wide st h
noncomputable def iStr (tl : TE) : TI := fun σ H R => tl σ H fun x H1 => ∃ z, x = .str z ∧ R (Its z) H1
theorem pi_str {tg l : Expr} {tl : TE} (hl : PE X l tl) : PI X tg l (iStr tl) := by
  intro pins s σ H R I h
  refine thn (hl pins s σ H _ I h) fun v s1 ⟨x, H1, I1, r1, q1⟩ => ?_
  obtain ⟨z, e, q⟩ := q1
  subst e
  obtain ⟨t, rfl⟩ := r1
  have fp : ∀ b ∈ [s1.heap.objs.size], FpOk X pins H1 b := fun b hb => by
    have e : b = s1.heap.objs.size := by simpa using hb
    subst e
    exact I1.fpOk (Nat.le_refl _) (I1.hok.fresh (Nat.le_refl _))
  cases ha : z.cps.all (· < 128)
  · refine wpAny_pyIter_wide ha ?_
    exact ⟨s1.heap.objs.size, [s1.heap.objs.size], _, _, H1, rfl, I1.kept (t' := s1.toks) fun b o e => Heap.get?_push_of_some _ e, turn_str _ z t _ (.inr rfl), ⟨_, Heap.get?_push_size _ rfl, rfl, rfl⟩, fp, q⟩
  · refine wpAny_pyIter_ascii ha ?_
    exact ⟨s1.heap.objs.size, [s1.heap.objs.size], _, _, H1, rfl, I1.kept (t' := s1.toks) fun b o e => Heap.get?_push_of_some _ e, turn_str _ z t _ (.inl rfl), ⟨_, Heap.get?_push_size _ rfl, rfl, rfl⟩, fp, q⟩
end
section
variable {K : PySem.W.Frag} {H₀ : Hp} {E : XK} {te ta tb : TE} {de da db : DE} {t1 t2 : TO} {d1 d2 : DO}
noncomputable def sgD (c : Nat) : PyData := .str ⟨#[c]⟩
noncomputable def dAsS (de : DE) (ex : DX) (δ : DEn) (Q : List PyData → Prop) : Prop := de ex δ fun d => match d with
  | .str z => Q (z.cps.toList.map sgD)
  | _ => False
theorem is_str (h : EvD K H₀ E te de) : IvS K H₀ E (iStr te) (dAsS de) := fun ex δ σ G H Qd R hx S q k =>
  h ex δ σ G H _ _ hx S q fun v d G' H' e hd qd => by
    cases d with
    | str z =>
      cases dv_str hd
      refine ⟨z, rfl, k _ _ G' H' e (fun G2 H2 s1 s2 i => ⟨fun d hi => ?_, fun hi => ?_⟩) qd⟩
      · rw [List.getElem?_map] at hi
        obtain ⟨c, hc, rfl⟩ := Option.map_eq_some_iff.mp hi
        rw [Array.getElem?_toList] at hc
        refine ⟨(Array.getElem?_eq_some_iff.mp hc).1, fun x H3 ⟨z1, c', h1, h2⟩ => ?_⟩
        subst z1
        rw [hc] at h1
        cases h1
        subst h2
        exact ⟨G2, .refl s2, .str _⟩
      · show z.cps.size ≤ i
        simpa using hi
    | _ => exact qd.elim
noncomputable def oIxs (x y : PyData) (Q : PyData → Prop) : Prop := match x, y with
  | .str z, .int i => z.length ≤ 100000 ∧ ∃ c, atI z.cps.toList i = some c ∧ Q (.str ⟨#[c]⟩)
  | _, _ => False
theorem ro_ixs : ROp K rIxS oIxs := by
  intro G H x y dx dy Qd Q hx hy q k
  unfold oIxs at q
  split at q
  · cases dv_str hx; cases dv_int hy
    obtain ⟨hl, c, hc, q⟩ := q
    exact ⟨_, _, c, rfl, rfl, Nat.le_of_lt (txtL hl), hc, k _ _ (.str _) q⟩
  · exact q.elim
noncomputable def oCats (x y : PyData) (Q : PyData → Prop) : Prop := match x, y with
  | .str a, .str b => a.length + b.length ≤ 100000 ∧ Q (.str (a ++ b))
  | _, _ => False
theorem ro_cats : ROp K (fun x y H Q => ∃ i j, x = .str i ∧ y = .str j ∧ i.length + j.length ≤ sizeLine ∧ Q (.str (i ++ j)) H) oCats := by
  intro G H x y dx dy Qd Q hx hy q k
  unfold oCats at q
  split at q
  · cases dv_str hx; cases dv_str hy
    exact ⟨_, _, rfl, rfl, Nat.le_of_lt (txtL q.1), k _ _ (.str _) q.2⟩
  · exact q.elim
noncomputable def oInS (x y : PyData) (Q : PyData → Prop) : Prop := match x, y with
  | .str a, .str b => Q (.bool (PySem.Txt.contains b a))
  | _, _ => False
noncomputable def oNInS (x y : PyData) (Q : PyData → Prop) : Prop := match x, y with
  | .str a, .str b => Q (.bool (!PySem.Txt.contains b a))
  | _, _ => False
theorem ro_inS : ROp K (fun x y H Q => ∃ i j, x = .str i ∧ y = .str j ∧ Q (.bl (!(Builtin.Str.occurrences j i 0 j.length 1).isEmpty)) H) oInS := by
  intro G H x y dx dy Qd Q hx hy q k
  unfold oInS at q
  split at q
  · cases dv_str hx; cases dv_str hy
    exact ⟨_, _, rfl, rfl, k _ _ (.bl _) q⟩
  · exact q.elim
theorem ro_notInS : ROp K (fun x y H Q => ∃ i j, x = .str i ∧ y = .str j ∧ Q (.bl (!(!(Builtin.Str.occurrences j i 0 j.length 1).isEmpty))) H) oNInS := by
  intro G H x y dx dy Qd Q hx hy q k
  unfold oNInS at q
  split at q
  · cases dv_str hx; cases dv_str hy
    exact ⟨_, _, rfl, rfl, k _ _ (.bl _) q⟩
  · exact q.elim
noncomputable def bLens (ds : List PyData) (Q : PyData → Prop) : Prop := match ds with
  | [.str z] => z.length ≤ 100000 ∧ Q (.int z.length)
  | _ => False
theorem rb_lens : RCb K (fun xs H Q => ∃ z, xs = [.str z] ∧ z.length ≤ sizeLine ∧ Q (.int z.length) H) bLens := by
  intro G H xs ds Qd Q hx q k
  unfold bLens at q
  split at q
  · obtain ⟨x, rfl, h1⟩ := dvs1 hx
    cases dv_str h1
    exact ⟨_, rfl, Nat.le_of_lt (txtL q.1), k _ _ (.int _) q.2⟩
  · exact q.elim
noncomputable def bIntS (ds : List PyData) (Q : PyData → Prop) : Prop := match ds with
  | [.str z] => z.length ≤ 640 ∧ ∃ n, PySem.intText? z = some n ∧ Q (.int n)
  | _ => False
theorem rb_intS : RCb K (fun xs H Q => ∃ z n, xs = [.str z] ∧ z.length ≤ 640 ∧ PySem.intText? z = some n ∧ Q (.int n) H) bIntS := by
  intro G H xs ds Qd Q hx q k
  unfold bIntS at q
  split at q
  · obtain ⟨x, rfl, h1⟩ := dvs1 hx
    cases dv_str h1
    obtain ⟨hl, n, hn, q⟩ := q
    exact ⟨_, n, rfl, hl, hn, k _ _ (.int _) q⟩
  · exact q.elim
noncomputable def bStr (ds : List PyData) (Q : PyData → Prop) : Prop := match ds with
  | [.int i] => i.natAbs.log2 < 1920 ∧ Q (.str (toString i))
  | _ => False
theorem rb_str : RCb K (fun xs H Q => ∃ i, xs = [.int i] ∧ i.natAbs.log2 < 1920 ∧ Q (.str (toString i)) H) bStr := by
  intro G H xs ds Qd Q hx q k
  unfold bStr at q
  split at q
  · obtain ⟨x, rfl, h1⟩ := dvs1 hx
    cases dv_int h1
    exact ⟨_, rfl, q.1, k _ _ (.str _) q.2⟩
  · exact q.elim
noncomputable def dSlS (de : DE) (d1 d2 : DO) (ex : DX) (δ : DEn) (Q : PyData → Prop) : Prop := de ex δ fun d => d1 ex δ fun lo => d2 ex δ fun hi => match d with
  | .str z => z.length ≤ 100000 ∧ Q (.str (PySem.Txt.slice z lo hi))
  | _ => False
theorem ev_slS (ha : BvD K H₀ E te de) (h1 : OvP K H₀ E t1 d1) (h2 : OvP K H₀ E t2 d2) : EvD K H₀ E (tSl rSlS te t1 t2) (dSlS de d1 d2) := fun ex δ σ G H Qd Q hx S q k =>
  ha ex δ σ G H _ _ hx S q fun v d G1 H1 e1 hv q1 => h1 ex δ σ G1 H1 _ _ hx (S.ext e1) q1 fun lo G2 H2 e2 q2 => h2 ex δ σ G2 H2 _ _ hx (S.ext (e1.trans e2)) q2 fun hi G3 H3 e3 q3 => by
    split at q3
    · cases dv_str hv
      exact ⟨_, rfl, Nat.le_of_lt (txtL q3.1), k _ _ G3 H3 ((e1.trans e2).trans e3) (.str _) q3.2⟩
    · exact q3.elim
noncomputable def dFind (da db : DE) (ex : DX) (δ : DEn) (Q : PyData → Prop) : Prop := da ex δ fun x => match x with
  | .str z => db ex δ fun y => match y with
    | .str y => Q (.int (PySem.Txt.find z y))
    | _ => False
  | _ => False
theorem ev_find (h1 : BvD K H₀ E ta da) (h2 : BvD K H₀ E tb db) : EvD K H₀ E (tBM K "str" rFind ta (tCons tb tNil)) (dFind da db) := fun ex δ σ G H Qd Q hx S q k =>
  h1 ex δ σ G H _ _ hx S q fun x d1 G1 H1 e1 hx1 q1 => by
    split at q1
    · cases dv_str hx1
      refine ⟨rfl, h2 ex δ σ G1 H1 _ _ hx (S.ext e1) q1 fun y d2 G2 H2 e2 hy q2 => ?_⟩
      split at q2
      · cases dv_str hy
        exact ⟨_, _, rfl, rfl, k _ _ G2 H2 (e1.trans e2) (.int _) q2⟩
      · exact q2.elim
    · exact q1.elim
noncomputable def dPartn (da db : DE) (ex : DX) (δ : DEn) (Q : PyData → Prop) : Prop := da ex δ fun x => match x with
  | .str z => db ex δ fun y => match y with
    | .str y => z.length ≤ 100000 ∧ (y.length == 0) = false ∧ Q (.tuple [.str (PySem.Txt.partition z y).1, .str (PySem.Txt.partition z y).2.1, .str (PySem.Txt.partition z y).2.2])
    | _ => False
  | _ => False
theorem ev_partn (h1 : BvD K H₀ E ta da) (h2 : BvD K H₀ E tb db) : EvD K H₀ E (tBM K "str" rPartition ta (tCons tb tNil)) (dPartn da db) := fun ex δ σ G H Qd Q hx S q k =>
  h1 ex δ σ G H _ _ hx S q fun x d1 G1 H1 e1 hx1 q1 => by
    split at q1
    · rename_i z
      cases dv_str hx1
      refine ⟨rfl, h2 ex δ σ G1 H1 _ _ hx (S.ext e1) q1 fun y d2 G2 H2 e2 hy q2 => ?_⟩
      split at q2
      · rename_i y2
        cases dv_str hy
        refine ⟨_, _, rfl, rfl, Nat.le_of_lt (txtL q2.1), q2.2.1, fun p hp => ?_⟩
        have e4 := ext_new (xs := [.str (PySem.Txt.partition z y2).1, .str (PySem.Txt.partition z y2).2.1, .str (PySem.Txt.partition z y2).2.2]) e2.s hp
        exact k _ _ _ _ ((e1.trans e2).trans e4) (.tup (SqT.of upd_same) (.cons (.str _) (.cons (.str _) (.cons (.str _) .nil)))) q2.2.2
      · exact q2.elim
    · exact q1.elim
end
section
variable {K : PySem.W.Frag} {G H G' H' : Hp}
theorem Rws.len : ∀ {bs : List Addr} {dss : List (List PyData)}, Rws K G H bs dss → bs.length = dss.length
  | _, _, .nil => rfl
  | _, _, .cons _ _ r => congrArg (· + 1) r.len
theorem Rws.ne {c : Addr} {o : HO} : ∀ {bs : List Addr} {dss : List (List PyData)}, c ∉ bs → Rws K G H bs dss → Rws K G (upd H c o) bs dss
  | _, _, _, .nil => .nil
  | _, _, n, .cons h1 h2 r => .cons (by rw [upd_ne (fun z => n (by rw [z]; exact List.mem_cons_self))]; exact h1) h2 (r.ne fun z => n (List.mem_cons_of_mem _ z))
theorem Rws.at : ∀ {bs : List Addr} {dss : List (List PyData)} {j : Nat} {ds : List PyData}, Rws K G H bs dss → dss[j]? = some ds → ∃ b vs, bs[j]? = some b ∧ H b = some (.lst vs) ∧ DVs K G vs ds
  | _, _, _, _, .nil, e => by simp at e
  | _, _, 0, _, .cons h1 h2 _, e => by
    simp at e
    subst e
    exact ⟨_, _, rfl, h1, h2⟩
  | _, _, j + 1, _, .cons _ _ r, e => by
    obtain ⟨b, vs, e1, h⟩ := r.at (j := j) (by simpa using e)
    exact ⟨b, vs, by simpa using e1, h⟩
theorem Rws.set {b : Addr} {vs : List V} {ds : List PyData} (h2 : DVs K G vs ds) : ∀ {bs : List Addr} {dss : List (List PyData)} {j : Nat}, bs.Nodup → bs[j]? = some b → Rws K G H bs dss → Rws K G (upd H b (.lst vs)) bs (dss.set j ds)
  | _, _, _, _, e, .nil => by simp at e
  | _, _, 0, nd, e, .cons h3 h4 r => by
    simp at e
    subst e
    exact .cons upd_same h2 (r.ne (List.nodup_cons.mp nd).1)
  | _, _, j + 1, nd, e, .cons h3 h4 r => by
    have e2 := e
    simp at e2
    have hm : b ∈ _ := List.mem_of_getElem? e2
    refine .cons ?_ h4 (Rws.set h2 (List.nodup_cons.mp nd).2 e2 r)
    rw [upd_ne (fun z => (List.nodup_cons.mp nd).1 (by rw [z]; exact hm))]
    exact h3
end
structure Gst (K : PySem.W.Frag) (H₀ G : Hp) (t : Nat) (δ : DEn) (σ : L2.St) (H : Hp) (a : Addr) (bs : List Addr) (dss : List (List PyData)) : Prop where
  un : Sees K H₀ G (put none t δ) σ H
  dt : ∀ i s, slot δ i = some s → (∃ d, s = .dat d) ∨ ∃ xs c, s = .own xs ∧ σ[i]? = some (some (.ref c)) ∧ c ∉ a :: bs
  sl : slot δ t = some (.dat (.list (dss.map PyData.list)))
  pl : σ[t]? = some (some (.ref a))
  ga : ∀ c ∈ a :: bs, G c = none
  nd : (a :: bs).Nodup
  ha : H a = some (.lst (bs.map V.ref))
  rw : Rws K G H bs dss
noncomputable def GSees (K : PySem.W.Frag) (H₀ G : Hp) (t : Nat) (δ : DEn) (σ : L2.St) (H : Hp) : Prop := ∃ a bs dss, Gst K H₀ G t δ σ H a bs dss
section
variable {K : PySem.W.Frag} {H₀ G H G' H' : Hp} {t : Nat} {δ : DEn} {σ : L2.St} {a : Addr} {bs : List Addr} {dss : List (List PyData)}
open Classical in
theorem Gst.frz (S : Gst K H₀ G t δ σ H a bs dss) : ∃ Gf : Hp, Same G Gf ∧ (∀ c, c ∉ a :: bs → Gf c = G c) ∧ (∀ c ∈ a :: bs, Gf c = H c) ∧ Sees K H₀ Gf δ σ H := by
  obtain ⟨Gf, hGf⟩ : ∃ Gf : Hp, ∀ c, Gf c = if c ∈ a :: bs then H c else G c := ⟨fun c => if c ∈ a :: bs then H c else G c, fun c => rfl⟩
  have f1 : ∀ c, c ∉ a :: bs → Gf c = G c := fun c h => by rw [hGf, if_neg h]
  have f2 : ∀ c ∈ a :: bs, Gf c = H c := fun c h => by rw [hGf, if_pos h]
  have sm : Same G Gf := fun c o z => by
    rw [f1 c fun h => by rw [S.ga c h] at z; cases z]; exact z
  refine ⟨Gf, sm, f1, f2, S.un.old.trans sm, fun c => ?_, by have := S.un.len; rw [put_len] at this; exact this, fun i s h => ?_, fun i j xs ys c h => ?_⟩
  · by_cases h : c ∈ a :: bs
    · exact .inl (f2 c h)
    · rw [f1 c h]; exact S.un.sub c
  · by_cases hi : i = t
    · subst hi
      rw [S.sl] at h
      cases h
      refine ⟨_, S.pl, .lst (SqL.of (xs := bs.map V.ref) (by rw [f2 a List.mem_cons_self]; exact S.ha)) (S.rw.dv Gf sm fun c hc => f2 c (List.mem_cons_of_mem _ hc))⟩
    · have hu : slot (put none t δ) i = some s := by rw [slot_put, if_neg (fun z => hi z.1)]; exact h
      obtain ⟨v, h1, h2⟩ := S.un.has i s hu
      refine ⟨v, h1, ?_⟩
      rcases S.dt i s h with ⟨d, rfl⟩ | ⟨xs, c, rfl, hc, hn⟩
      · exact dv_same sm h2
      · obtain ⟨c', vs, rfl, g1, g2, g3⟩ := h2
        rw [h1] at hc
        cases hc
        exact ⟨_, vs, rfl, by rw [f1 _ hn]; exact g1, g2, dvs_same sm g3⟩
  · intro hj e1 e2
    by_cases hi : i = t
    · subst hi
      rw [S.sl] at h
      cases h
    · by_cases hjt : j = t
      · subst hjt
        rw [S.sl] at hj
        cases hj
      · exact S.un.sep i j xs ys c (by rw [slot_put, if_neg (fun z => hi z.1)]; exact h) (by rw [slot_put, if_neg (fun z => hjt z.1)]; exact hj) e1 e2
open Classical in
theorem put_comm (x y : Option Sl) : ∀ {i j : Nat} (δ : DEn), i ≠ j → put x i (put y j δ) = put y j (put x i δ)
  | i, j, [], _ => by cases i <;> cases j <;> rfl
  | 0, 0, _ :: _, h => absurd rfl h
  | 0, j + 1, _ :: _, _ => rfl
  | i + 1, 0, _ :: _, _ => rfl
  | i + 1, j + 1, z :: δ, h => by
    show z :: put x i (put y j δ) = z :: put y j (put x i δ)
    rw [put_comm x y δ (fun e => h (by rw [e]))]
theorem Gst.set {i : Nat} {v : V} {d : PyData} (S : Gst K H₀ G t δ σ H a bs dss) (hi : i ≠ t) (h : DV K G v d) : Gst K H₀ G t (put (some (.dat d)) i δ) (σ.set i (some v)) H a bs dss := by
  refine ⟨?_, fun j s hj => ?_, ?_, ?_, S.ga, S.nd, S.ha, S.rw⟩
  · rw [put_comm _ _ δ (Ne.symm hi)]
    exact S.un.setD i h
  · rw [slot_put] at hj
    split at hj
    · cases hj
      exact .inl ⟨d, rfl⟩
    · rename_i hc
      have hji : j ≠ i := fun z => hc ⟨z, by rw [← z]; exact slot_lt hj⟩
      rcases S.dt j s hj with h | ⟨xs, c, h1, h2, h3⟩
      · exact .inl h
      · exact .inr ⟨xs, c, h1, by rw [List.getElem?_set_ne (Ne.symm hji)]; exact h2, h3⟩
  · rw [slot_put, if_neg (fun z => hi z.1.symm)]
    exact S.sl
  · rw [List.getElem?_set_ne hi]
    exact S.pl
end
structure LkG (K : PySem.W.Frag) (H₀ G : Hp) (t : Nat) (e : DEnds) (D : Ends) : Prop where
  nx : ∀ δ σ G' H, Same G G' → GSees K H₀ G' t δ σ H → e.nx δ → D.nx σ H
  rt : ∀ v s H, Same H₀ H → RetIs K H₀ H v s → e.rt s → D.rt v H
  bk : ∀ δ σ G' H, Same G G' → GSees K H₀ G' t δ σ H → e.bk δ → D.bk σ H
  ct : ∀ δ σ G' H, Same G G' → GSees K H₀ G' t δ σ H → e.ct δ → D.ct σ H
theorem LkG.mono {K : PySem.W.Frag} {H₀ G G1 : Hp} {t : Nat} {e : DEnds} {D : Ends} (L : LkG K H₀ G t e D) (s : Same G G1) : LkG K H₀ G1 t e D :=
  ⟨fun δ σ G' H q => L.nx δ σ G' H (s.trans q), L.rt, fun δ σ G' H q => L.bk δ σ G' H (s.trans q), fun δ σ G' H q => L.ct δ σ G' H (s.trans q)⟩
section
variable {K : PySem.W.Frag} {H₀ : Hp} {E : XK} {t : Nat} {te ta tb : TE} {da db de : DE} {dl dk : DL} {tt : TT} {dt : DT} {ts tz : TS} {ds dz : DS}
end
section
variable {K : PySem.W.Frag} {H₀ : Hp} {E : XK} {t : Nat} {te : TE} {dl dk : DL} {g : TG} {dg : DG} {ns : List Nat} {tz : TS} {dz : DS}
end
section
variable {dl dk : DL} {cap : List (Option Nat)} {dg : DG} {ex : DX} {δ : DEn} {Q : List (List PyData) → Prop}
end
section
variable {X : Cx}
end
section
variable {K : PySem.W.Frag} {H₀ : Hp} {E : XK} {te : TE} {de : DE} {dl : DL} {t : TA} {tt : TT} {dt : DT} {ts tz : TS} {ds dz : DS}
end
section
variable {K : PySem.W.Frag} {H₀ : Hp} {E : XK} {te1 te2 te3 te4 : TE} {dl d1 d2 d4 : DL} {d3 : DE}
theorem slot_ne {δ : DEn} {i j : Nat} {x : Option Sl} (h : j ≠ i) : slot (put x i δ) j = slot δ j := by
  rw [slot_put, if_neg (fun z => h z.1)]
structure RwI (K : PySem.W.Frag) (H₀ : Hp) (tb : Nat) (δ : DEn) (σ : L2.St) (G H : Hp) (a : Addr) (cs : List Addr) (dss : List (List PyData)) : Prop where
  sl : slot δ tb = some (.own (dss.map PyData.list))
  rw : Rws K G G cs dss
  pl : σ[tb]? = some (some (.ref a))
  ha : H a = some (.lst (cs.map V.ref))
  nd : cs.Nodup
  fr : ∀ c ∈ cs, H₀ c = none ∧ ∃ zs, G c = some (.lst zs)
theorem RwI.ext {tb : Nat} {δ : DEn} {σ : L2.St} {G H G' H' : Hp} {a : Addr} {cs : List Addr} {dss : List (List PyData)} (R : RwI K H₀ tb δ σ G H a cs dss) (g : Same G G') (h : Same H H') : RwI K H₀ tb δ σ G' H' a cs dss :=
  ⟨R.sl, R.rw.mono g g, R.pl, h _ _ R.ha, R.nd, fun c hc => ⟨(R.fr c hc).1, by obtain ⟨zs, z⟩ := (R.fr c hc).2; exact ⟨zs, g _ _ z⟩⟩⟩
theorem RwI.put {tb i : Nat} {δ : DEn} {σ : L2.St} {G H : Hp} {a : Addr} {cs : List Addr} {dss : List (List PyData)} {x : Option Sl} {y : Option V} (R : RwI K H₀ tb δ σ G H a cs dss) (h : tb ≠ i) : RwI K H₀ tb (put x i δ) (σ.set i y) G H a cs dss :=
  ⟨by rw [slot_ne h]; exact R.sl, R.rw, by rw [List.getElem?_set_ne (Ne.symm h)]; exact R.pl, R.ha, R.nd, R.fr⟩
end
section
variable {K : PySem.W.Frag} {H₀ : Hp} {E : XK} {t : TA} {teA teB teC teD teX : TE} {dl dA : DL} {dB dC : DX → DEn → (List (List PyData) → Prop) → Prop} {dD dX : DE} {tz : TS} {dz : DS} {w : DW}
theorem Rws.flat {G H G' : Hp} (s : ∀ b o, G b = some o → (∀ xs, o ≠ .lst xs) → G' b = some o) : ∀ {bs : List Addr} {dss : List (List PyData)}, (∀ d ∈ dss, flatDs d = true) → Rws K G H bs dss → Rws K G' H bs dss
  | _, _, _, .nil => .nil
  | _, _, f, .cons h1 h2 r => .cons h1 (dvs_flat s h2 (f _ List.mem_cons_self)) (r.flat s fun d hd => f d (List.mem_cons_of_mem _ hd))
theorem Sees.nil {G H : Hp} {δ : DEn} {σ σ' : L2.St} (S : Sees K H₀ G δ σ H) : Sees K H₀ G [] σ' H := ⟨S.old, S.sub, Nat.zero_le _, (fun i s h => by cases h), (fun i j xs ys a h => by cases h)⟩
open Classical in
end
theorem vals_strs : ∀ {zs : List Str} {its : List Value}, Vals (zs.map V.str) its → ∃ ps : List (Str × Tok), ps.map (·.1) = zs ∧ its = strValues ps
  | [], _, .nil => ⟨[], rfl, rfl⟩
  | z :: zs, _, .cons h t => by
    obtain ⟨tk, rfl⟩ := h
    obtain ⟨ps, e1, e2⟩ := vals_strs t
    exact ⟨(z, tk) :: ps, by rw [List.map_cons, e1], by rw [e2]; rfl⟩
theorem vals_from : ∀ (tk : Nat) (zs : List Str), Vals (zs.map V.str) (strsFrom tk zs)
  | _, [] => .nil
  | tk, z :: zs => .cons ⟨tk, rfl⟩ (vals_from (tk + 1) zs)
section
variable {X : Cx}
noncomputable def rJoin (K : PySem.W.Frag) : V → List V → Hp → VK → Prop := fun x vs H Q => ∃ (sep : Str) (l : Addr) (zs : List Str), x = .str sep ∧ vs = [.ref l] ∧ SqL K H l (zs.map V.str) ∧ Builtin.Str.tooLong (zs.toArray.foldl (· + ·.length + sep.length) 0) = false ∧ Q (.str (Txt.join sep zs)) H
theorem mt_join : MtR X "str.join" (rJoin X.K) := by
  intro pins s σ H x xs v us Q I rx rs h
  obtain ⟨sep, l, zs, rfl, rfl, hS, hl, q⟩ := h
  obtain ⟨t, rfl⟩ := rx
  obtain ⟨u, rfl, ru⟩ := vals1 rs
  cases ru
  obtain ⟨its, r, pl, hz⟩ := I.list hS
  obtain ⟨ps, e1, e2⟩ := vals_strs r
  subst e1 e2
  refine call_meets PySem.F.slot_str_join (typeIs_str _ _ _) PySem.F.entry_str_join (PySem.F.args_str_join_2 _ _) (meets_str_join_list sep t l ps hl) ⟨pl.isList, ?_⟩
  have hlen := joinFit_length hl
  match ps, q, hlen with
  | [], q, hlen => exact ⟨hlen, .str _, H, I.tok _, ⟨_, rfl⟩, q⟩
  | [p], q, hlen => exact ⟨.str _, H, I, ⟨_, rfl⟩, q⟩
  | p :: p2 :: ps, q, hlen => exact ⟨hlen, .str _, H, I.tok _, ⟨_, rfl⟩, q⟩
noncomputable def rSplit : V → List V → Hp → VK → Prop := fun x vs H Q => ∃ z y, x = .str z ∧ vs = [.str y] ∧ z.length ≤ sizeLine ∧ (y.length == 0) = false ∧ (Txt.split z y).length ≤ sizeLine ∧ ∀ l, H l = none → Q (.ref l) (upd H l (.lst ((Txt.split z y).map V.str)))
theorem mt_split : MtR X "str.split" rSplit := by
  intro pins s σ H x xs v us Q I rx rs h
  obtain ⟨z, y, rfl, rfl, hz, hy, hn, q⟩ := h
  obtain ⟨t, rfl⟩ := rx
  obtain ⟨u, rfl, t', rfl⟩ := vals1 rs
  have self : Txt.split z y = [z] → EP X pins σ Q (.ref s.heap.objs.size) { s with heap := s.heap.push { cls := .type "list", data := .seq [Value.str z t].toArray } } := fun e => by
    rw [e] at q
    refine ⟨.ref s.heap.objs.size, _, I.laid (t' := s.toks) (o := .lst [.str z]) (fun b ob q => Heap.get?_push_of_some _ q) (Nat.le_refl _) ?_, rfl, q _ (I.hok.fresh (Nat.le_refl _))⟩
    exact ⟨Nat.le_of_lt (small1000 (show 1 ≤ 1000 by decide)), _, 0, .cons ⟨_, rfl⟩ .nil, Heap.get?_push_size _ rfl⟩
  cases h1 : (decide (z.length < y.length) || decide (Builtin.Str.strKind z < Builtin.Str.strKind y)) with
  | true =>
    refine call_meets PySem.F.slot_str_split (typeIs_str _ _ _) PySem.F.entry_str_split (PySem.F.args_str_split_2 _ _) (meets_str_split_cannot_occur z y t t' h1) (self ?_)
    unfold Txt.split
    rw [if_pos h1]
  | false =>
    cases h2 : (Builtin.Str.occurrences z y 0 z.length (z.length + 1)).isEmpty with
    | true =>
      refine call_meets PySem.F.slot_str_split (typeIs_str _ _ _) PySem.F.entry_str_split (PySem.F.args_str_split_2 _ _) (meets_str_split_not_found z y t t' h1 hy h2) (self ?_)
      unfold Txt.split
      rw [if_neg (by rw [h1]; decide), if_pos h2]
    | false =>
      have e : Txt.split z y = Builtin.Str.partsBetween z (Builtin.Str.occurrences z y 0 z.length (z.length + 1)) y.length := by
        unfold Txt.split
        rw [if_neg (by rw [h1]; decide), if_neg (by rw [h2]; decide)]
      rw [e] at q hn
      refine call_meets PySem.F.slot_str_split (typeIs_str _ _ _) PySem.F.entry_str_split (PySem.F.args_str_split_2 _ _) (meets_str_split_sep z y t t' h1 hy h2 hz hn) ?_
      refine ⟨.ref s.heap.objs.size, _, I.laid (t' := s.toks + _) (o := .lst ((Builtin.Str.partsBetween z (Builtin.Str.occurrences z y 0 z.length (z.length + 1)) y.length).map V.str)) (fun b ob q => Heap.get?_push_of_some _ q) (Nat.le_refl _) ?_, rfl, q _ (I.hok.fresh (Nat.le_refl _))⟩
      exact ⟨by rw [List.length_map]; exact hn, _, 0, vals_from _ _, Heap.get?_push_size _ rfl⟩
end
theorem mt_joinK {X : Cx} {K : PySem.W.Frag} (hK : X.K = K) : MtR X "str.join" (rJoin K) := by subst hK; exact mt_join
theorem join_fits {sep : Str} {zs : List Str} (h : (zs.map (·.length)).sum + zs.length * sep.length ≤ 100000) : Builtin.Str.tooLong (zs.toArray.foldl (· + ·.length + sep.length) 0) = false := by
  rw [StrLaws.joinTotal]
  unfold Builtin.Str.tooLong
  exact decide_eq_false (by have := txtL h; omega)
theorem dvs_strs {K : PySem.W.Frag} {H : Hp} : ∀ {vs : List V} {zs : List Str}, DVs K H vs (zs.map PyData.str) → vs = zs.map V.str
  | _, [], .nil => rfl
  | _, z :: zs, .cons h t => by
    cases dv_str h
    rw [dvs_strs t]
    rfl
theorem strs_dvs {K : PySem.W.Frag} {H : Hp} : ∀ zs : List Str, DVs K H (zs.map V.str) (zs.map PyData.str)
  | [] => .nil
  | z :: zs => .cons (.str z) (strs_dvs zs)
section
variable {K : PySem.W.Frag} {H₀ : Hp} {E : XK} {ta tb : TE} {da db : DE} {dl : DL}
noncomputable def dJoin (da : DE) (dl : DL) (ex : DX) (δ : DEn) (Q : PyData → Prop) : Prop := da ex δ fun x => match x with
  | .str sep => dl ex δ fun ds => ∃ zs : List Str, ds = zs.map PyData.str ∧ (zs.map (·.length)).sum + zs.length * sep.length ≤ 100000 ∧ Q (.str (Txt.join sep zs))
  | _ => False
theorem ev_join (h1 : BvD K H₀ E ta da) (h2 : LvD K H₀ E tb dl) : EvD K H₀ E (tBM K "str" (rJoin K) ta (tCons tb tNil)) (dJoin da dl) := fun ex δ σ G H Qd Q hx S q k =>
  h1 ex δ σ G H _ _ hx S q fun x d1 G1 H1 e1 hx1 q1 => by
    split at q1
    · cases dv_str hx1
      refine ⟨rfl, h2 ex δ σ G1 H1 _ _ hx (S.ext e1) q1 fun a vs ds G2 H2 e2 hl hd q2 => ?_⟩
      obtain ⟨zs, rfl, hn, q3⟩ := q2
      have := dvs_strs hd
      subst this
      exact ⟨_, a, zs, rfl, rfl, hl, join_fits hn, k _ _ G2 H2 (e1.trans e2) (.str _) q3⟩
    · exact q1.elim
noncomputable def dSplit (da db : DE) (ex : DX) (δ : DEn) (Q : List PyData → Prop) : Prop := da ex δ fun x => match x with
  | .str z => db ex δ fun y => match y with
    | .str y => z.length ≤ 90000 ∧ (y.length == 0) = false ∧ Q ((Txt.split z y).map PyData.str)
    | _ => False
  | _ => False
theorem ov_split (h1 : BvD K H₀ E ta da) (h2 : BvD K H₀ E tb db) : OvD K H₀ E (tBM K "str" rSplit ta (tCons tb tNil)) (dSplit da db) := fun ex δ σ G H Qd Q hx S q k =>
  h1 ex δ σ G H _ _ hx S q fun x d1 G1 H1 e1 hx1 q1 => by
    split at q1
    · rename_i z
      cases dv_str hx1
      refine ⟨rfl, h2 ex δ σ G1 H1 _ _ hx (S.ext e1) q1 fun y d2 G2 H2 e2 hy q2 => ?_⟩
      split at q2
      · rename_i y2
        cases dv_str hy
        have hl := split_le z y2
        refine ⟨_, _, rfl, rfl, Nat.le_of_lt (txtL (by omega)), q2.2.1, Nat.le_of_lt (txtL (by omega)), fun p hp => ?_⟩
        obtain ⟨e3, hg⟩ := ext_newL (xs := (Txt.split z y2).map V.str) e2.s hp
        have e0 := e1.trans e2
        exact k p _ _ _ _ (e0.trans e3) (e0.h.free hp) hg upd_same (strs_dvs _) q2.2.2
      · exact q2.elim
    · exact q1.elim
end
end Dl
namespace Lx
open PySem PySem.Spec PyProof.Rows L2
noncomputable def ExcG (h₀ h : Heap) (H : Hp) (x : Addr) (C : Value) : Prop :=
  ∃ oe vs, h.get? x = some oe ∧ oe.cls = C ∧ oe.data = .fields vs ∧ H x = none ∧ h₀.get? x = none ∧
    (vs[1]? = some Value.none ∨ ∃ T oT ts, vs[1]? = some (Value.ref T) ∧ T ≠ x ∧ h.get? T = some oT ∧ oT.data = .fields ts ∧ 3 < ts.size ∧ H T = none ∧ h₀.get? T = none)
noncomputable def ExcF (h₀ h : Heap) (H : Hp) (x : Addr) (C : Value) : Prop :=
  ∃ oe vs T oT ts, h.get? x = some oe ∧ oe.cls = C ∧ oe.data = .fields vs ∧ H x = none ∧ h₀.get? x = none ∧
    vs[1]? = some (Value.ref T) ∧ T ≠ x ∧ h.get? T = some oT ∧ oT.data = .fields ts ∧ 3 < ts.size ∧ H T = none ∧ h₀.get? T = none
theorem ExcAt.g {h₀ h : Heap} {H : Hp} {x : Addr} {C : Value} (e : ExcAt h₀ h H x C) : ExcG h₀ h H x C := by
  obtain ⟨oe, vs, h1, h2, h3, h4, h5, h6⟩ := e
  refine ⟨oe, vs, h1, h2, h3, h4, h5, ?_⟩
  rcases h6 with h6 | ⟨T, oT, ts, g1, g2, g3, g4, g5, g6, g7⟩
  · exact .inl h6
  · exact .inr ⟨T, oT, ts, g1, g2, g3, g4, (Array.getElem?_eq_some_iff.mp g5).1, g6, g7⟩
theorem ExcF.g {h₀ h : Heap} {H : Hp} {x : Addr} {C : Value} (e : ExcF h₀ h H x C) : ExcG h₀ h H x C := by
  obtain ⟨oe, vs, T, oT, ts, h1, h2, h3, h4, h5, g1, g2, g3, g4, g5, g6, g7⟩ := e
  exact ⟨oe, vs, h1, h2, h3, h4, h5, .inr ⟨T, oT, ts, g1, g2, g3, g4, g5, g6, g7⟩⟩
theorem ExcF.older {h₀ h₁ h : Heap} {H : Hp} {x : Addr} {C : Value} (e : ExcF h₁ h H x C) (k : ∀ b, h₁.get? b = none → h₀.get? b = none) : ExcF h₀ h H x C := by
  obtain ⟨oe, vs, T, oT, ts, h1, h2, h3, h4, h5, g1, g2, g3, g4, g5, g6, g7⟩ := e
  exact ⟨oe, vs, T, oT, ts, h1, h2, h3, h4, k _ h5, g1, g2, g3, g4, g5, g6, k _ g7⟩
noncomputable def KeptO (h₀ : Heap) (H : Hp) (fs : List Addr) (h h' : Heap) : Prop :=
  (∀ b o, h.get? b = some o → (h₀.get? b ≠ none ∨ H b ≠ none) → b ∉ fs → h'.get? b = some o) ∧ ∀ b o, h.get? b = some o → b ∈ fs → ∃ sl, h'.get? b = some { o with slots := sl }
theorem KeptO.trans {h₀ h h1 h2 : Heap} {H : Hp} {fs : List Addr} (x : KeptO h₀ H fs h h1) (y : KeptO h₀ H fs h1 h2) : KeptO h₀ H fs h h2 :=
  ⟨fun b o e n f => y.1 b o (x.1 b o e n f) n f, fun b o e f => by
    obtain ⟨s1, e1⟩ := x.2 b o e f
    obtain ⟨s2, e2⟩ := y.2 b _ e1 f
    exact ⟨s2, e2⟩⟩
theorem KeptO.there {h₀ h h1 : Heap} {H : Hp} {fs : List Addr} (x : KeptO h₀ H fs h h1) {b : Addr} {o : Obj} (e : h.get? b = some o) (n : h₀.get? b ≠ none ∨ H b ≠ none) : ∃ u, h1.get? b = some u := by
  by_cases f : b ∈ fs
  · obtain ⟨s1, e1⟩ := x.2 b o e f
    exact ⟨_, e1⟩
  · exact ⟨o, x.1 b o e n f⟩
theorem fun_kept {h h' base : Heap} : ∀ {l : List Env}, h.FunFrames base l → (∀ b o, h.get? b = some o → b ∈ frs l → ∃ sl, h'.get? b = some { o with slots := sl }) → h'.FunFrames base l
  | [], _, _ => trivial
  | env :: l, ⟨hk, ⟨L, o, hf, hn, ho, hd⟩, hr⟩, k => by
    obtain ⟨sl, e⟩ := k L o ho (mem_frs List.mem_cons_self hf)
    refine ⟨hk, ⟨L, _, hf, hn, e, hd⟩, fun_kept hr fun b o e hb => k b o e ?_⟩
    obtain ⟨env', h1, h2⟩ := List.mem_filterMap.mp hb
    exact mem_frs (List.mem_cons_of_mem _ h1) h2
theorem KeptO.touch {h₀ h : Heap} {H : Hp} {fs : List Addr} {T : Addr} {f : Obj → Obj} (n0 : h₀.get? T = none) (n1 : H T = none) (nf : T ∉ fs) : KeptO h₀ H fs h (h.update T f) := by
  have oth : ∀ b, b ≠ T → (h.update T f).get? b = h.get? b := fun b nb => Heap.get?_update_other _ _ (Ne.symm nb)
  refine ⟨fun b o e n _ => (oth b ?_).trans e, fun b o e hb => ⟨o.slots, (oth b ?_).trans e⟩⟩
  · rintro rfl
    rcases n with z | z
    · exact z n0
    · exact z n1
  · rintro rfl
    exact nf hb
section
variable {M : Model} {A : Around} {E : Value → Shared → Prop} {s : Shared} {base h₀ : Heap} {env : Env} {outer : List Env} {L x : Addr} {C : Value} {H : Hp} {Q : Unit → Shared → Prop}
theorem fld_nofr (hl : s.heap.FunFrames base (env :: outer)) {T : Addr} {oT : Obj} {ts : Array Value} (h : s.heap.get? T = some oT) (hd : oT.data = .fields ts) : T ∉ frs (env :: outer) := fun hm => by
  obtain ⟨_, o, e, nf⟩ := hl.mem hm
  rw [h] at e; cases e
  exact nf ts hd
theorem entry_any {oe : Obj} {vs : Array Value} {head : Value} {bn : Bool}
    (hfr : A.frames = some (env :: outer)) (hl : s.heap.FunFrames base (env :: outer)) (hf : env.frame = some L) (hx : s.heap.get? x = some oe) (hd : oe.data = .fields vs) (hz : 1 < vs.size)
    (h : ∀ (h' : Heap) (T : Addr) (oT : Obj) (ts : Array Value), (∀ b o, b ≠ x → b ∉ frs (env :: outer) → s.heap.get? b = some o → h'.get? b = some o) →
      (∀ b o, s.heap.get? b = some o → b ∈ frs (env :: outer) → ∃ sl, h'.get? b = some { o with slots := sl }) →
      h'.get? x = some (Obj.mapFields (·.setIfInBounds 1 (Value.ref T)) oe) → s.heap.get? T = none → h'.get? T = some oT → oT.data = .fields ts → 3 < ts.size → Q () { s with heap := h' }) :
    wpAny M A (do let a ← frameOf env; let q ← entryPlaceOf L bn; let e ← EntryCells.newEntry head a .none (rawInt L) .none q; setField (.ref x) 1 e) Q E s := by
  have nx : x ∉ frs (env :: outer) := fld_nofr hl hx hd
  refine wpAny_bind (wpAny_frameOf_fun hfr hl hf fun h1 s1 => wpAny_bind (wpAny_entryPlaceOf fun q hq => ?_))
  unfold EntryCells.newEntry newFields
  refine wpAny_bind (wpAny_newObj_type ?_ (hq.sizeOk5 _ _ _ _ _))
  have x1 : h1.get? x = some oe := (s1.2.1 x nx).trans hx
  refine wpAny_setField (Heap.get?_push_of_some _ x1) hd hz ?_
  have ne : h1.objs.size ≠ x := Nat.ne_of_gt (Heap.lt_size x1)
  refine h _ h1.objs.size _ _ (fun b o nb hb e => ?_) (fun b o e hb => ?_) (Heap.get?_update_self _ (Heap.get?_push_of_some _ x1) (Obj.isFreed_of_fields (Obj.data_mapFields hd _))) ?_ ((Heap.get?_update_other _ _ (Ne.symm ne)).trans (Heap.get?_push_size h1 rfl)) rfl ?_
  · exact (Heap.get?_update_other _ _ (Ne.symm nb)).trans (Heap.get?_push_of_some _ ((s1.2.1 b hb).trans e))
  · obtain ⟨sl, e1⟩ := s1.2.2 b o e
    refine ⟨sl, (Heap.get?_update_other _ _ fun z => nx ?_).trans (Heap.get?_push_of_some _ e1)⟩
    rw [z]; exact hb
  · cases e : s.heap.get? h1.objs.size with
    | none => rfl
    | some o =>
      obtain ⟨sl, e1⟩ := s1.2.2 _ o e
      exact absurd (Heap.lt_size e1) (Nat.lt_irrefl _)
  · simp only [List.size_toArray, List.length_append, List.length_cons, List.length_nil]
    omega
theorem note_any (hfr : A.frames = some (env :: outer)) (hl : s.heap.FunFrames base (env :: outer)) (hf : env.frame = some L) (hx : ExcG h₀ s.heap H x C)
    (h0 : ∀ b o, h₀.get? b = some o → ∃ u, s.heap.get? b = some u) (hH : ∀ b o, H b = some o → ∃ u, s.heap.get? b = some u)
    (h : ∀ h', KeptO h₀ H (frs (env :: outer)) s.heap h' → ExcF h₀ h' H x C → Q () { s with heap := h' }) : wpAny M A (noteFrame (.ref x) env) Q E s := by
  obtain ⟨oe, vs, he, hc, hd, hHx, h0x, htr⟩ := hx
  have fin : ∀ (h1 : Heap) (head : Value) (bn : Bool), KeptO h₀ H (frs (env :: outer)) s.heap h1 → h1.get? x = some oe → 1 < vs.size →
      wpAny M A (do let a ← frameOf env; let q ← entryPlaceOf L bn; let e ← EntryCells.newEntry head a .none (rawInt L) .none q; setField (.ref x) 1 e) Q E { s with heap := h1 } := by
    intro h1 head bn k1 e1 hz
    refine entry_any (s := { s with heap := h1 }) hfr (fun_kept hl k1.2) hf e1 hd hz fun h' T oT ts a1 a2 a3 a4 a5 a6 a7 => ?_
    have nT : ∀ {b : Addr}, h1.get? b = none → (h₀.get? b ≠ none ∨ H b ≠ none) → False := fun {b} q n => by
      obtain ⟨u, hu⟩ : ∃ u, s.heap.get? b = some u := by
        rcases n with z | z
        · cases e : h₀.get? b with
          | none => exact absurd e z
          | some o => exact h0 b o e
        · cases e : H b with
          | none => exact absurd e z
          | some o => exact hH b o e
      obtain ⟨v, hv⟩ := k1.there hu n
      rw [q] at hv; cases hv
    refine h h' (k1.trans ⟨fun b o q n f => a1 b o ?_ f q, a2⟩) ⟨_, _, T, oT, ts, a3, (Obj.cls_mapFields _ _).trans hc, Obj.data_mapFields hd _, hHx, h0x, by simp [hz], ?_, a5, a6, a7, ?_, ?_⟩
    · rintro rfl
      rcases n with z | z
      · exact z h0x
      · exact z hHx
    · rintro rfl
      have a4' : h1.get? T = none := a4
      rw [e1] at a4'; cases a4'
    · cases e : H T with
      | none => rfl
      | some o => exact (nT a4 (.inr (by rw [e]; simp))).elim
    · cases e : h₀.get? T with
      | none => rfl
      | some o => exact (nT a4 (.inl (by rw [e]; simp))).elim
  unfold noteFrame
  simp only [hf]
  rcases htr with h1 | ⟨T, oT, ts, h1, hTx, hT, hdT, h3, hHT, h0T⟩
  · refine wpAny_bind (wpAny_field (s := s) he hd h1 ?_)
    rw [if_neg (by decide : ¬ ((Value.none != Value.none) = true))]
    exact fin s.heap _ _ ⟨fun _ _ e _ _ => e, fun _ o e _ => ⟨o.slots, e⟩⟩ he (Array.getElem?_eq_some_iff.mp h1).1
  · refine wpAny_bind (wpAny_field (s := s) he hd h1 ?_)
    rw [if_pos (by simp : (Value.ref T != Value.none) = true)]
    obtain ⟨v, hv⟩ : ∃ v, ts[3]? = some v := ⟨_, Array.getElem?_eq_getElem h3⟩
    refine wpAny_bind (wpAny_field (s := s) hT hdT hv ?_)
    by_cases hb : (v == rawInt L) = true
    · rw [if_pos hb]
      refine wpAny_pure ?_
      exact h s.heap ⟨fun _ _ e _ _ => e, fun _ o e _ => ⟨o.slots, e⟩⟩ ⟨oe, vs, T, oT, ts, he, hc, hd, hHx, h0x, h1, hTx, hT, hdT, h3, hHT, h0T⟩
    · rw [if_neg hb]
      refine wpAny_bind (wpAny_setField (s := s) hT hdT h3 ?_)
      exact fin _ _ _ (.touch h0T hHT (fld_nofr hl hT hdT)) ((Heap.get?_update_other _ _ hTx).trans he) (Array.getElem?_eq_some_iff.mp h1).1
theorem mark_any {m : Option Addr} (hl : s.heap.FunFrames base (env :: outer)) (hx : ExcF h₀ s.heap H x C)
    (h : ∀ h', KeptO h₀ H (frs (env :: outer)) s.heap h' → ExcF h₀ h' H x C → (m = none → ExcAt h₀ h' H x C) → Q () { s with heap := h' }) : wpAny M A (setFlight (.ref x) m) Q E s := by
  obtain ⟨oe, vs, T, oT, ts, he, hc, hd, hHx, h0x, h1, hTx, hT, hdT, h3, hHT, h0T⟩ := hx
  unfold setFlight
  refine wpAny_bind (wpAny_field (s := s) he hd h1 ?_)
  rw [if_pos (by simp : (Value.ref T != Value.none) = true)]
  refine wpAny_setField (s := s) hT hdT h3 ?_
  have e1 : (s.heap.update T (Obj.mapFields (·.setIfInBounds 3 (m.elim Value.none fun f => rawInt f)))).get? x = some oe := (Heap.get?_update_other _ _ hTx).trans he
  have e2 := Heap.get?_update_self (Obj.mapFields (·.setIfInBounds 3 (m.elim Value.none fun f => rawInt f))) hT (Obj.isFreed_of_fields (Obj.data_mapFields hdT _))
  refine h _ (.touch h0T hHT (fld_nofr hl hT hdT)) ⟨oe, vs, T, _, _, e1, hc, hd, hHx, h0x, h1, hTx, e2, Obj.data_mapFields hdT _, by simpa using h3, hHT, h0T⟩ fun z => ?_
  subst z
  exact ⟨oe, vs, e1, hc, hd, hHx, h0x, .inr ⟨T, _, _, h1, hTx, e2, Obj.data_mapFields hdT _, by simp [h3], hHT, h0T⟩⟩
end
noncomputable def LeavesBy (X : Cx) (E : XK) : Prop := ∀ (pins : List (Addr × Obj)) (σ : L2.St) (H' : Hp) (s' : Shared) (x : Addr) (C : Value), Inv X pins σ H' s' → ExcF X.s₀.heap s'.heap H' x C → E C none H' → X.xe (.ref x) s'
theorem leave_fly {P : Program} {w : World} {K : PySem.W.Frag} {mg : Str → Option Value} {base : Heap} {N : List Str} {qual : Str} {scope : Scope} {f : Addr} {cdv : Value} {A : Around} {outer : List Env} {s₀ : Shared} {H₀ : Hp} {E : XK} :
    LeavesBy (cxOf (CXE P w) P w K mg base N qual scope f cdv A outer s₀ H₀ E) E := by
  intro pins σ H' s' x C I' hx hE
  have noex : ∀ b : Addr, b ∉ (cxOf (CXE P w) P w K mg base N qual scope f cdv A outer s₀ H₀ E).ex := fun b z => absurd (show b ∈ ([] : List Addr) from z) (by simp)
  have there : ∀ b o, s₀.heap.get? b = some o → ∃ o', s'.heap.get? b = some o' := fun b o e => I'.base.there b o e (noex b)
  show wpAny (model P w) _ (leaving _ (.ref x)) _ _ s'
  unfold leaving
  refine wpAny_bind (note_any (h₀ := s₀.heap) (H := H') (base := base) I'.ok.frames I'.stack rfl hx.g there (fun b o e => obj_get (I'.hok b o e)) fun h1 k1 x1 => ?_)
  refine mark_any (s := { s' with heap := h1 }) (base := base) (fun_kept I'.stack k1.2) x1 fun h2 k2 _ x2 => ?_
  obtain ⟨kp, sl⟩ := k1.trans k2
  have neL : ∀ b o, s₀.heap.get? b = some o → b ∉ frs outer → b ∉ frs (envOfC qual scope s₀.heap.objs.size f cdv :: outer) := fun b o e hb hm => by
    rcases List.mem_cons.mp (I'.stkSub b hm) with z | z
    · exact absurd (z ▸ Heap.lt_size e) (Nat.not_lt.mpr I'.ok.above)
    · exact hb z
  refine ⟨x, C, H', rfl, I'.os, I'.bare, ⟨fun b o e n hb _ => ?_, fun b o e n hb _ => ?_, fun b o e n _ => I'.base.free b o e n (noex b), fun b o e _ => ?_, I'.base.tups, I'.base.frzs, I'.base.tbls⟩, left_ok I' kp, x2 rfl, hE⟩
  · exact kp b o (I'.base.keep b o e n hb (noex b)) (.inl (by rw [e]; simp)) (neL b o e hb)
  · obtain ⟨sl1, e1⟩ := I'.base.slot b o e n hb (noex b)
    obtain ⟨sl2, e2⟩ := sl b _ e1 (by
      obtain ⟨env, h1, h2⟩ := List.mem_filterMap.mp hb
      exact mem_frs (List.mem_cons_of_mem _ h1) h2)
    exact ⟨sl2, e2⟩
  · obtain ⟨o1, e1⟩ := there b o e
    exact KeptO.there ⟨kp, sl⟩ e1 (.inl (by rw [e]; simp))
end Lx
namespace Lx
open PySem PySem.Spec PyProof.Rows L2
section
variable {prog : Program} {w : World} {A : Around} {R : Result → Shared → Prop} {s : Shared}
theorem lc_loopE {elt target iter : Expr} {ifs : List Expr} {scope : Scope} {pos : Pos} {it acc : Value} {cenv : Env} (J : Nat → Shared → Prop) (E' : Value → Shared → Prop) (hE : ∀ e s', E' e s' → notedBy (model prog w) A cenv (fun e s' => R (.error e) s') e s')
    (turn : ∀ n s, J n s → wpAny (model prog w) A (pyNext it) (fun r sa => match r with
      | none => R (.ok .next) sa
      | some v => wpAny (model prog w) A (letOwnedTupleGo target it v) (fun _ sb => wpAny (model prog w) A (assign target cenv v) (fun _ sc =>
          wpAny (model prog w) A (forIn ifs true fun c r => if r = true then do let ok ← isTrue c cenv (eval c cenv); pure (ForInStep.yield ok) else pure (ForInStep.yield r)) (fun ok sd =>
            if ok = true then wpAny (model prog w) A (eval elt cenv) (fun x se =>
              wpAny (model prog w) A (call (.builtin "list.append") [acc, x]) (fun _ sf => ∃ m, m < n ∧ J m sf) E' se) E' sd
            else ∃ m, m < n ∧ J m sd) E' sc) E' sb) E' sa) E' s)
    (n : Nat) (h : J n s) : codeAny (model prog w) A (.compLoop (.ListComp elt [⟨target, iter, ifs, 0⟩] scope pos) 0 it acc cenv) R s := by
  refine codeAny_loop rfl J (fun k sk hJ => ?_) n h
  show wpAny _ A ((compTurn (.ListComp elt [⟨target, iter, ifs, 0⟩] scope pos) 0 it acc cenv).onRaise (fun y => do noteFrame y cenv; theTreesLotGoes y)) _ _ sk
  refine wpAny_noted (wpAny_mono (E := E') ?_ (fun _ _ z => z) hE)
  rw [compTurn_list]
  refine wpAny_bind (wpAny_standAt (wpAny_bind (wpAny_mono (turn k sk hJ) (fun r sa ha => ?_) fun _ _ z => z)))
  cases r with
  | none => exact wpAny_pure ha
  | some v =>
    refine wpAny_bind (wpAny_mono ha (fun _ sb hb => wpAny_bind (wpAny_mono hb (fun _ sc hc => wpAny_bind (wpAny_mono hc (fun ok sd hd => ?_) fun _ _ z => z)) fun _ _ z => z)) fun _ _ z => z)
    cases ok with
    | false => exact wpAny_pure ⟨rfl, hd⟩
    | true => exact wpAny_bind (wpAny_bind (wpAny_mono hd (fun x se he => wpAny_bind (wpAny_mono he (fun _ sf hf => wpAny_pure (wpAny_pure ⟨rfl, hf⟩)) fun _ _ z => z)) fun _ _ z => z))
end
noncomputable def lcXe (X : Cx) (E : XK) (scope : Scope) (cl : List (Str × Addr)) (NC : List Str) (C : Addr) (s₀ : Shared) (H₀ : Hp) (fp : List Addr) : Value → Shared → Prop := fun e s' =>
  ∃ (pins : List (Addr × Obj)) (σ : L2.St) (H' : Hp) (x : Addr) (CC : Value) (h₁ : Heap), e = .ref x ∧ Inv (lcCx X scope cl NC C s₀ H₀ fp) pins σ H' s' ∧ ExcAt h₁ s'.heap H' x CC ∧ (∀ b o, h₁.get? b = some o → ∃ u, s'.heap.get? b = some u) ∧
    (∀ b o, s₀.heap.get? b = some o → b ∉ fp → ∃ u, h₁.get? b = some u) ∧ (∃ u, h₁.get? C = some u) ∧ E CC none H'
noncomputable def lcCxE (X : Cx) (E : XK) (scope : Scope) (cl : List (Str × Addr)) (NC : List Str) (C : Addr) (s₀ : Shared) (H₀ : Hp) (fp : List Addr) : Cx :=
  { lcCx X scope cl NC C s₀ H₀ fp with xe := lcXe X E scope cl NC C s₀ H₀ fp }
section
variable {X : Cx} {E : XK} {scope : Scope} {cl : List (Str × Addr)} {NC : List Str} {C : Addr} {s₀ : Shared} {H₀ : Hp} {fp : List Addr} {pins : List (Addr × Obj)} {σ : L2.St} {H : Hp} {s : Shared}
theorem inv_E (I : Inv (lcCxE X E scope cl NC C s₀ H₀ fp) pins σ H s) : Inv (lcCx X scope cl NC C s₀ H₀ fp) pins σ H s :=
  have ok := I.ok
  ⟨⟨ok.mod, ok.kind, ok.glob, ok.blt, ok.above, ok.inj, ok.has, ok.cab, ok.hd, ok.frames, ok.stk, ok.exf, ok.bs, ok.bsz, ok.noex, ok.exfs, ok.funs, ok.frf⟩, I.os, I.bare, I.base, I.loc, I.cell, I.free, I.freeC, I.pin, I.hok, I.len⟩
theorem pass_lc {P : Program} {w : World} (hP : X.prog = P) (hw : X.w = w) : Passes (CXE P w) (lcCxE X E scope cl NC C s₀ H₀ fp) E := by
  subst hP hw
  intro pins σ H s e s' I hc
  obtain ⟨x, CC, H', rfl, ho, hg, u, hok, hx, hE⟩ := hc
  have I' : Inv (lcCxE X E scope cl NC C s₀ H₀ fp) pins σ H' s' := I.call' ho u hok hg (fun b z => absurd z (by simp))
  refine ⟨pins, σ, H', x, CC, s.heap, rfl, inv_E I', hx, fun b o e => u.there b o e (by simp), fun b o e hb => I.base.there b o e hb, ?_, hE⟩
  obtain ⟨m, ⟨o, _, _, ho, _⟩, _⟩ := I.loc
  exact ⟨o, ho⟩
end
section
variable {X : Cx} {E : XK} {elt target iter : Expr} {ifs : List Expr} {scope : Scope} {pos : Pos} {wi : TI} {cap : List (Option Nat)} {NC : List Str} {cl : List (Str × Addr)} {g : TG} {tt : TT} {te : TE}
theorem pe_lcE (hc : X.calm = true) (hst : X.stack = X.env :: X.outer) (hfm : X.env.frame = some X.env.locals) (hex : X.ex = []) (hlv : LeavesBy X E) (L : LcOk X scope cl cap NC) (hi : PI X target iter wi) (hg : ∀ C s₀ H₀ fp, PG (lcCxE X E scope cl NC C s₀ H₀ fp) target g) (ht : ∀ C s₀ H₀ fp, PTs (lcCxE X E scope cl NC C s₀ H₀ fp) ifs tt) (he : ∀ C s₀ H₀ fp, PE (lcCxE X E scope cl NC C s₀ H₀ fp) elt te)
    (hs : ∀ x, foldedSetIterable iter X.env x = pure x := by intro _; rfl) : PE X (.ListComp elt [⟨target, iter, ifs, 0⟩] scope pos) (tLC wi cap g tt te) := by
  intro pins s σ H Q I h
  rw [eval_ListComp]
  refine wpAny_comprehension_free (use := none) rfl hs L.clos L.kind L.names (thn (hi pins s σ H _ I h) fun xv s₁ h₁ => thn h₁ fun itv s₂ h₂ => ?_)
  obtain ⟨it, fp, tn, J, H2, rfl, I2, T, st2, f2, hW⟩ := h₂
  refine wpAny_newObj_type (wpAny_newFunctionEnv L.nocell (by intro y hy; simp at hy) (fun h₁ hns₁ hsb₁ => ?_) L.kind)
  dsimp only at hns₁ hsb₁ ⊢
  have nD : H2 s₂.heap.objs.size = none := I2.hok.fresh (Nat.le_refl _)
  have I3 : Inv X pins σ (upd H2 s₂.heap.objs.size (.lst [])) { s₂ with heap := s₂.heap.push { cls := .type "list", dict := none, data := .seq ([] : List Value).toArray } } := by
    refine I2.laid (t' := s₂.toks) (fun b u e => Heap.get?_push_of_some _ e) (Nat.le_refl _) ?_
    exact ⟨Nat.zero_le _, [], 0, .nil, Heap.get?_push_size _ rfl⟩
  obtain ⟨W, ⟨m0, w0⟩, turn⟩ := hW s₂.heap.objs.size nD
  generalize hD : s₂.heap.objs.size = D at nD I3 turn w0 ⊢
  generalize hH : s₂.heap.push { cls := .type "list", dict := none, data := .seq ([] : List Value).toArray } = h₀ at hns₁ hsb₁ I3 ⊢
  have hpush : ∀ b o, s₂.heap.get? b = some o → h₀.get? b = some o := fun b o e => by rw [← hH]; exact Heap.get?_push_of_some _ e
  generalize hC : h₀.objs.size = C at hns₁ hsb₁ ⊢
  have belowC : ∀ b o, h₀.get? b = some o → b ≠ C := fun b o e z => by
    have := Heap.lt_size e
    rw [hC, ← z] at this
    exact Nat.lt_irrefl _ this
  have old : ∀ b o, h₀.get? b = some o → h₁.get? b = some o := fun b o e => hsb₁.extBut b o (belowC b o e) (Heap.get?_push_of_some _ e)
  have f3 : ∀ b ∈ fp, FpOk X pins (upd H2 D (.lst [])) b := fun b hb => by
    obtain ⟨x1, x2⟩ := f2 b hb
    obtain ⟨o, e, _⟩ := T.obj 0 _ st2 b hb
    refine ⟨?_, x2⟩
    rw [upd_ne (fun z => by have := Heap.lt_size e; rw [z, ← hD] at this; exact Nat.lt_irrefl _ this)]
    exact x1
  have fpC : ∀ b ∈ fp, b ≠ C := fun b hb => by
    obtain ⟨o, e, _⟩ := T.obj 0 _ st2 b hb
    exact belowC b o (hpush b o e)
  have clC : ∀ x c, cl.lookup x = some c → c ≠ C := fun x c e => by
    obtain ⟨v, o, ho, _⟩ := I3.cell x c (lc_cells L e)
    exact belowC c o ho
  have noC : (upd H2 D (.lst [])) C = none := I3.hok.fresh (by show h₀.objs.size ≤ C; rw [hC]; exact Nat.le_refl _)
  have okZ : (lcCx X scope cl NC C { s₂ with heap := h₀ } (upd H2 D (.lst [])) fp).Ok := by
    refine ⟨I3.ok.mod, by show (relabel scope X.env).kind = _; exact L.kind, I3.ok.glob, I3.ok.blt, by show h₀.objs.size ≤ C; rw [hC]; exact Nat.le_refl _, fun x y c e1 e2 => I3.ok.inj x y c (lc_cells L e1) (lc_cells L e2), fun x hx => ?_, fun x c z => (by cases z), I3.ok.hd, I3.ok.frames, .inl rfl, fun b hb => ⟨fpC b hb, fun x c e => (f3 b hb).2.2.2.2.1 x c (lc_cells L e)⟩, I3.bs, Nat.le_trans I3.ok.bsz I3.sz, fun b o e hb => ?_, fun b hb hm => ?_, I3.stack, I3.stkFree⟩
    · have mem : ∃ k, (x, k) ∈ (relabel scope X.env).names ∧ (k = .cell ∨ k = .free) := by
        rcases hx with z | z
        · exact ⟨_, PySem.mem_of_lookup z, .inl rfl⟩
        · exact ⟨_, PySem.mem_of_lookup z, .inr rfl⟩
      obtain ⟨k, hk, hk2⟩ := mem
      have q := List.all_eq_true.mp L.has (x, k) hk
      have q2 : (cl.lookup x).isSome = true := by
        rcases hk2 with z | z
        · subst z; simpa using q
        · subst z; simpa using q
      exact Option.isSome_iff_exists.mp q2
    · rcases (f3 b hb).2.2.2.1 with z | z
      · exact I3.ok.noex b o e z
      · exact absurd (Nat.lt_of_lt_of_le (Heap.lt_size e) (Nat.le_trans I3.ok.bsz z)) (Nat.lt_irrefl _)
    · rcases List.mem_cons.mp (I3.stkSub b hm) with z | z
      · exact (f3 b hb).2.1 z
      · exact (f3 b hb).2.2.1 z
  have okY : (lcCxE X E scope cl NC C { s₂ with heap := h₀ } (upd H2 D (.lst [])) fp).Ok :=
    ⟨okZ.mod, okZ.kind, okZ.glob, okZ.blt, okZ.above, okZ.inj, okZ.has, okZ.cab, okZ.hd, okZ.frames, okZ.stk, okZ.exf, okZ.bs, okZ.bsz, okZ.noex, okZ.exfs, okZ.funs, okZ.frf⟩
  have stat : ∀ {Hc : Hp}, (∀ b ∈ fp, Hc b = none) → ∀ b ∈ fp, FpOk (lcCxE X E scope cl NC C { s₂ with heap := h₀ } (upd H2 D (.lst [])) fp) [] Hc b := fun hn b hb =>
    ⟨hn b hb, fpC b hb, okY.exfs b hb, .inl hb, fun x c e => (okY.exf b hb).2 x c e, fun p hp => absurd (show p ∈ ([] ++ [] : List (Addr × Obj)) from hp) (by simp)⟩
  have back : ∀ {σc : L2.St} {Hc : Hp} {s' : Shared} {pn : List (Addr × Obj)}, Inv (lcCx X scope cl NC C { s₂ with heap := h₀ } (upd H2 D (.lst [])) fp) pn σc Hc s' → ∀ h', Heap.SameBut C s'.heap h' → ∀ t', Inv X pins σ Hc { s' with heap := h', toks := t' } := fun {σc Hc s' pn} I' h' sb t' => by
    have u := I'.base
    have nC : Hc C = none := I'.free
    refine I3.call' (s' := { s' with heap := h', toks := t' }) (ch := fp) I'.os ⟨fun b o e n hb hx => ?_, fun b o e n hb hx => ?_, u.free, fun b o e hx => ?_, u.tups, u.frzs, u.tbls⟩ (fun b o e => ?_) I'.bare (fun b hb => ⟨(f3 b hb).2.2.2.1, (f3 b hb).2.1, (f3 b hb).2.2.2.2.1, (f3 b hb).2.2.2.2.2⟩)
    · exact (sb.2 b (belowC b o e)).trans (u.keep b o e n hb hx)
    · obtain ⟨sl, q⟩ := u.slot b o e n hb hx
      exact ⟨sl, (sb.2 b (belowC b o e)).trans q⟩
    · obtain ⟨o', q⟩ := u.there b o e hx
      exact ⟨o', (sb.2 b (belowC b o e)).trans q⟩
    · refine (I'.hok b o e).stay (fun c v hcb q => (sb.2 c ?_).trans q) (fun _ q => q) fun _ _ q => q
      rintro rfl
      rcases hcb with z | z
      · subst z
        rw [nC] at e; cases e
      · rw [nC] at z; cases z
  have Ist : ∀ t', Inv (lcCxE X E scope cl NC C { s₂ with heap := h₀ } (upd H2 D (.lst [])) fp) [] (capσ cap σ) (upd H2 D (.lst [])) { s₂ with heap := h₁, toks := t' } := fun t' => by
    refine ⟨okY, rfl, I3.bare, ⟨fun b o e _ _ _ => old b o e, fun b o e _ _ _ => ⟨o.slots, old b o e⟩, fun _ _ _ n _ => n, fun b o e _ => ⟨o, old b o e⟩, fun _ _ e => e, fun _ _ _ e => e, fun b ps e => ⟨#[], by rw [show (upd H2 D (.lst [])) b = _ from e]; simp⟩⟩, ⟨_, hns₁, fun j y v e1 e2 e3 => ?_⟩, fun y c e => ?_, noC, fun y c e => I3.freeC y c (lc_cells L e), fun p hp => absurd (show p ∈ ([] ++ [] : List (Addr × Obj)) from hp) (by simp), I3.hok.kept old, by
      show (cap.map _).length = NC.length
      rw [List.length_map]; exact L.caps.len⟩
    · have e2' : (cap.map fun o => o.bind fun i => (σ[i]?).bind id)[j]? = some (some v) := e2
      rw [List.getElem?_map] at e2'
      cases hq : cap[j]? with
      | none => rw [hq] at e2'; cases e2'
      | some o =>
        rw [hq] at e2'
        cases o with
        | none => cases e2'
        | some i =>
          have e4 : (σ[i]?).bind id = some v := by simpa using e2'
          have e5 : σ[i]? = some (some v) := by
            cases hs : σ[i]? with
            | none => rw [hs] at e4; cases e4
            | some z => rw [hs] at e4; simpa using e4
          obtain ⟨c, x1, x2, x3, x4, x5⟩ := L.caps.at hq e1
          obtain ⟨m, hn, hl⟩ := I3.loc
          obtain ⟨u, r, l⟩ := hl i y v x1 e5 (.inr (.inl x2))
          refine ⟨u, r, .inr ⟨.inl x5, c, x3, ?_⟩⟩
          rcases l with ⟨k, _⟩ | ⟨_, c', x6, z⟩
          · have k' : X.env.scope.names.lookup y = some .local := k
            rw [x2] at k'; cases k'
          · rw [x4] at x6; cases x6
            obtain ⟨o, ho, hd⟩ := z
            exact ⟨o, old _ _ ho, hd⟩
    · obtain ⟨v, o, ho, hd⟩ := I3.cell y c (lc_cells L e)
      exact ⟨v, o, old _ _ ho, hd⟩
  have fail : ∀ e s', lcXe X E scope cl NC C { s₂ with heap := h₀ } (upd H2 D (.lst [])) fp e s' → notedBy (model X.prog X.w) X.A (compEnvC scope cl C X.env) (fun e s' => compPost (model X.prog X.w) X.A X.xe none (EP X pins σ Q) (.ref D) C (.error e) s') e s' := by
    rintro e s' ⟨pn, σc, H', x, CC, hk, rfl, I', hx, k0, k1, ⟨uC, kC⟩, hE⟩
    have IX : Inv X pins σ H' s' := back I' s'.heap ⟨rfl, fun _ _ => rfl⟩ s'.toks
    have nC : H' C = none := I'.free
    have frX : X.A.frames = some (X.env :: X.outer) := by rw [← hst]; exact I2.ok.frames
    have stX : s'.heap.FunFrames X.base (X.env :: X.outer) := by rw [← hst]; exact IX.stack
    have Cfr : C ∉ frs (X.env :: X.outer) := fun hm => by
      rw [← hst] at hm
      rcases List.mem_cons.mp (I3.stkSub C hm) with z | z
      · have := I3.lt
        rw [← z] at this
        exact absurd this (by show ¬ C < h₀.objs.size; rw [hC]; exact Nat.lt_irrefl _)
      · exact I3.nofs (by show h₀.objs.size ≤ C; rw [hC]; exact Nat.le_refl _) z
    have O : Old X pins (PySem.W.hideAll s₂.heap fp) := by
      have hid : ∀ {b : Addr} {o : Obj}, s₂.heap.get? b = some o → b ∉ fp → ∃ u, (PySem.W.hideAll s₂.heap fp).get? b = some u := fun e n => ⟨_, PySem.W.hideAll_get _ e n⟩
      refine ⟨fun b o e hx => ?_, ?_, fun p hp => hid (I2.pin p hp).1 fun z => (f2 _ z).2.2.2.2.2 p hp rfl, fun y c e => ?_⟩
      · obtain ⟨o', e'⟩ := I2.base.there b o e hx
        refine hid e' fun z => ?_
        rcases (f2 b z).2.2.2.1 with q | q
        · exact hx q
        · exact absurd (Heap.lt_size e) (Nat.not_lt.mpr q)
      · obtain ⟨m, ⟨o, _, _, ho, _⟩, _⟩ := I2.loc
        exact hid ho fun z => (f2 _ z).2.1 rfl
      · obtain ⟨v, o, ho, _⟩ := I2.cell y c e
        exact hid ho fun z => (f2 c z).2.2.2.2.1 y c e rfl
    have toK : ∀ b, (PySem.W.hideAll s₂.heap fp).get? b ≠ none → hk.get? b ≠ none ∧ b ≠ C := fun b z => by
      cases q : (PySem.W.hideAll s₂.heap fp).get? b with
      | none => exact absurd q z
      | some o =>
        have q2 := hpush b o (PySem.W.of_hideAll _ q)
        have nf : b ∉ fp := fun hb => by rw [PySem.W.hideAll_none _ hb] at q; cases q
        obtain ⟨u, hu⟩ := k1 b o q2 nf
        exact ⟨by rw [hu]; simp, belowC b o q2⟩
    show wpAny (model X.prog X.w) X.A (noteFrame (.ref x) X.env) _ _ s'
    refine note_any (base := X.base) (outer := X.outer) (H := H') (h₀ := hk) frX stX hfm hx.g k0 (fun b o e => obj_get (I'.hok b o e)) fun h1 kp1 x1 => ?_
    obtain ⟨m, hn, _⟩ := id I'.loc
    obtain ⟨oC, c1, c2, c3, c4⟩ := hn
    have c5 : h1.get? C = some oC := kp1.1 C oC c3 (.inl (by rw [kC]; simp)) Cfr
    refine ⟨m, ⟨oC, c1, c2, c5, c4⟩, fun h2 sb cenv' _ => ?_⟩
    have x2 : ExcF hk h2 H' x CC := by
      obtain ⟨oe, vs, T, oT, ts, g1, g2, g3, g4, g5, g6, g7, g8, g9, g10, g11, g12⟩ := x1
      refine ⟨oe, vs, T, oT, ts, (sb.2 x fun z => ?_).trans g1, g2, g3, g4, g5, g6, g7, (sb.2 T fun z => ?_).trans g8, g9, g10, g11, g12⟩
      · rw [z, kC] at g5; cases g5
      · rw [z, kC] at g12; cases g12
    have st2 : h2.FunFrames X.base (X.env :: X.outer) := fun_kept stX fun b o e hb => by
      obtain ⟨sl, e1⟩ := kp1.2 b o e hb
      exact ⟨sl, (sb.2 b fun z => Cfr (z ▸ hb)).trans e1⟩
    unfold PySem.passOn
    obtain ⟨oe, vs, T, oT, ts, g1, g2, g3, g4, g5, g6, g7, g8, g9, g10, g11, g12⟩ := id x2
    refine wpAny_bind (wpAny_field (s := { s' with heap := h2 }) g1 g3 g6 ?_)
    rw [if_neg (by simp : ¬ ((Value.ref T == Value.none) = true))]
    refine wpAny_bind (mark_any (s := { s' with heap := h2 }) (base := X.base) (env := X.env) (outer := X.outer) (h₀ := hk) (H := H') st2 x2 fun h3 kp3 x3 _ => ?_)
    refine wpAny_throw ?_
    have I3' : Inv X pins σ H' { s' with heap := h3 } := inv_over (t' := s'.toks) hst hfm IX O (fun b o e hb hf => ?_) fun b o e hb => ?_
    · refine hlv pins σ H' { s' with heap := h3 } x CC I3' (x3.older fun b q => ?_) hE
      cases q2 : X.s₀.heap.get? b with
      | none => rfl
      | some o =>
        obtain ⟨u, hu⟩ := O.s0 b o q2 (by rw [hex]; simp)
        exact absurd q (toK b (by rw [hu]; simp)).1
    · rw [hst] at hf
      have hb' : hk.get? b ≠ none ∨ H' b ≠ none := hb.imp (fun z => (toK b z).1) id
      have nb : b ≠ C := by
        rcases hb with z | z
        · exact (toK b z).2
        · rintro rfl; exact z nC
      exact kp3.1 b o ((sb.2 b nb).trans (kp1.1 b o e hb' hf)) hb' hf
    · rw [hst] at hb
      obtain ⟨s1, e1⟩ := kp1.2 b o e hb
      obtain ⟨s2, e2⟩ := kp3.2 b _ ((sb.2 b fun z => Cfr (z ▸ hb)).trans e1) hb
      exact ⟨s2, e2⟩
  have loop : ∀ s₃ : Shared, s₃ = { s₂ with heap := h₁, toks := s₂.toks + ([] : List (Str × Value)).length } →
      codeAny (model X.prog X.w) X.A (.compLoop (.ListComp elt [⟨target, iter, ifs, 0⟩] scope pos) 0 (.ref it) (.ref D) (compEnvC scope cl C X.env)) (compPost (model X.prog X.w) X.A X.xe none (EP X pins σ Q) (.ref D) C) s₃ := by
    rintro s₃ rfl
    refine lc_loopE (fun n s' => ∃ i σc Hc, Inv (lcCxE X E scope cl NC C { s₂ with heap := h₀ } (upd H2 D (.lst [])) fp) [] σc Hc s' ∧ tn i s'.heap ∧ (∀ b ∈ fp, Hc b = none) ∧ W i n σc Hc) (lcXe X E scope cl NC C { s₂ with heap := h₀ } (upd H2 D (.lst [])) fp) fail ?_ m0 ⟨0, capσ cap σ, _, Ist _, T.keep _ _ _ st2 (fun b hb o e => old b o (hpush b o e)), fun b hb => (f3 b hb).1, w0⟩
    rintro n s5 ⟨i, σc, Hc, I5, st5, fr5, w5⟩
    rcases turn i n σc Hc w5 with ⟨stop, qn⟩ | ⟨go, N, hN, step⟩
    · refine wpAny_mono (T.done (lcCxE X E scope cl NC C { s₂ with heap := h₀ } (upd H2 D (.lst [])) fp) rfl rfl rfl hc i [] s5 σc Hc (lcXe X E scope cl NC C { s₂ with heap := h₀ } (upd H2 D (.lst [])) fp) I5 (stat fr5) st5 stop) (fun r s6 ⟨hr, I6⟩ => ?_) fun _ _ z => z
      subst hr
      obtain ⟨m, hn, _⟩ := id I6.loc
      exact ⟨m, hn, fun h' sb => ⟨.ref D, Hc, back (inv_E I6) h' sb _, rfl, qn⟩⟩
    · refine wpAny_mono (T.item (lcCxE X E scope cl NC C { s₂ with heap := h₀ } (upd H2 D (.lst [])) fp) rfl rfl rfl hc i [] s5 σc Hc (lcXe X E scope cl NC C { s₂ with heap := h₀ } (upd H2 D (.lst [])) fp) I5 (stat fr5) st5 go) (fun r s6 ⟨u, hr, h6⟩ => ?_) fun _ _ z => z
      subst hr
      refine wpAny_mono h6 (fun _ s7 ⟨x, H7, I7, r7, y7, st7, fr7⟩ => ?_) fun _ _ z => z
      have I7' := I7.pinned (stat fr7) (T.obj _ _ st7)
      refine wpAny_mono (hg C _ _ fp _ s7 σc H7 x u _ I7' r7 (step x H7 y7)) (fun _ s8 ⟨σ8, H8, I8, q8⟩ => ?_) fun _ _ z => z
      have again : ∀ {σ9 : L2.St} {H9 : Hp} {s9 : Shared}, Inv (lcCxE X E scope cl NC C { s₂ with heap := h₀ } (upd H2 D (.lst [])) fp) ([] ++ pinsAt fp s7.heap) σ9 H9 s9 → N σ9 H9 → ∃ m, m < n ∧ ∃ i σ' H', Inv (lcCxE X E scope cl NC C { s₂ with heap := h₀ } (upd H2 D (.lst [])) fp) [] σ' H' s9 ∧ tn i s9.heap ∧ (∀ b ∈ fp, H' b = none) ∧ W i m σ' H' := fun {σ9 H9 s9} I9 n9 => by
        obtain ⟨m', hm, w9⟩ := hN σ9 H9 n9
        refine ⟨m', hm, i + 1, σ9, H9, I9.unpinned, T.keep _ _ _ st7 fun b hb o e => (I9.pin (b, o) (List.mem_append_right _ (List.mem_append_right _ (mem_pinsAt hb e)))).1, fun b hb => ?_, w9⟩
        obtain ⟨o, e, d⟩ := T.obj _ _ st7 b hb
        exact (I9.pin (b, o) (List.mem_append_right _ (List.mem_append_right _ (mem_pinsAt hb e)))).2.1
      refine wpAny_mono (ht C _ _ fp _ s8 σ8 H8 _ I8 q8) (fun ok s9 ⟨H9, I9, q9⟩ => ?_) fun _ _ z => z
      cases ok with
      | false =>
        rw [if_neg Bool.false_ne_true] at q9 ⊢
        exact again I9 q9
      | true =>
        rw [if_pos rfl] at q9 ⊢
        refine wpAny_mono (he C _ _ fp _ s9 σ8 H9 _ I9 q9) (fun v sa ⟨y, Ha, Ia, ra, ys, hy, hl, na⟩ => ?_) fun _ _ z => z
        have app := mt_append (X := lcCxE X E scope cl NC C { s₂ with heap := h₀ } (upd H2 D (.lst [])) fp) _ sa σ8 Ha (.ref D) [y] (.ref D) [v] (fun _ Hb => N σ8 Hb) Ia rfl (.cons ra .nil) ⟨D, ys, y, rfl, rfl, hy, hl, na⟩
        exact wpAny_mono app (fun _ sb ⟨_, Hb, Ib, _, nb⟩ => again Ib nb) fun _ _ z => z
  exact codeAny_compStart_list (loop _ rfl) (T.self _ 0 _ _ _ (T.keep _ _ _ st2 fun b hb o e => old b o (hpush b o e)) (loop _ rfl))
end
end Lx
namespace Lx
open PySem PySem.Spec PyProof.Rows L2
open Builtin Builtin.Str in
theorem gives_rep1 (x y z : Str) (t u v k : Tok) (h0 : (u == 0 || v == 0) = false) (huv : (u == v) = false) (hyz : (y == z) = false) (hx : x.length + z.length ≤ 200000) :
    Gives («str.replace» ⟨[.str x t, .str y u, .str z v, .int 1 k], []⟩)
      (if ((occurrences x y 0 x.length 1).isEmpty || (y.length == 0 && z.length == 0)) = true then .val (.str x t) else .str (glued z (partsBetween x (occurrences x y 0 x.length 1) y.length))) := by
  show Gives (if ((occurrences x y 0 x.length 1).isEmpty || (y.length == 0 && z.length == 0)) = true then (do rule "str.replace.nothing"; ret (.str x t)) else
          (do let same ← isSame (.str y u) (.str z v)
              if same = true then (do rule "str.replace.old-is-new"; ret (.str x t)) else
              if tooLong (x.length + (occurrences x y 0 x.length 1).length * z.length) = true then unsupported "str.replace:memory" else
              retStr (glued z (partsBetween x (occurrences x y 0 x.length 1) y.length)))) _
  cases hc : ((occurrences x y 0 x.length 1).isEmpty || (y.length == 0 && z.length == 0)) with
  | true =>
    rw [if_pos rfl, if_pos rfl]
    exact .rule (.of_eq rfl)
  | false =>
    have hl : tooLong (x.length + (occurrences x y 0 x.length 1).length * z.length) = false := by
      have h1 := StrLaws.occ_length_le x y 0 x.length 1
      have h2 : (occurrences x y 0 x.length 1).length * z.length ≤ 1 * z.length := Nat.mul_le_mul_right _ h1
      unfold tooLong
      refine decide_eq_false ?_
      rw [sizeLine_eq]
      omega
    rw [if_neg Bool.false_ne_true, if_neg Bool.false_ne_true, isSame_str_other y z u v h0 huv hyz, hl]
    exact .of_eq rfl
open Builtin Builtin.Str in
theorem rep1_len (x y z : Str) : (glued z (partsBetween x (occurrences x y 0 x.length 1) y.length)).length ≤ x.length + z.length := by
  have h1 := StrLaws.occ_length_le x y 0 x.length 1
  have hy : (glued y (partsBetween x (occurrences x y 0 x.length 1) y.length)).length = x.length := by rw [StrLaws.glued_between_self]
  rw [size_glued, length_partsBetween, Nat.add_sub_cancel] at hy
  rw [size_glued, length_partsBetween, Nat.add_sub_cancel]
  have h2 : (occurrences x y 0 x.length 1).length * z.length ≤ 1 * z.length := Nat.mul_le_mul_right _ h1
  omega
noncomputable abbrev T2 := L2.St → Hp → (Hp → Prop) → Prop
noncomputable def P2 (X : Cx) (y : Str) (e : Expr) (t : T2) : Prop :=
  ∀ (pins : List (Addr × Obj)) (s : Shared) (σ : L2.St) (H : Hp) (R : Hp → Prop), Inv X pins σ H s → t σ H R →
    wpAny (model X.prog X.w) X.A (eval e X.env) (fun v s' => ∃ z tok H', v = .str z tok ∧ s.toks ≤ tok ∧ (y == z) = false ∧ z.length ≤ 10 ∧ Inv X pins σ H' s' ∧ R H') X.xe s
section
variable {X : Cx}
theorem p2_str {y x : Str} {j : Nat} {pos : Pos} (h : (y == x) = false) (hl : x.length ≤ 10) : P2 X y (.Constant (.str x) j pos) (fun _ H R => R H) := fun pins s σ H R I q =>
  Calls.Constant_str ⟨x, s.toks, H, rfl, Nat.le_refl _, h, hl, I.tok _, q⟩
noncomputable def CSs (X : Cx) : List Expr → List Str → Prop
  | [], [] => True
  | e :: es, x :: xs => (∃ j pos, e = .Constant (.str x) j pos) ∧ starEach (e :: es) X.env = (false, eval e X.env) :: starEach es X.env ∧ CSs X es xs
  | _, _ => False
theorem css_run : ∀ {es : List Expr} {xs : List Str} {pins : List (Addr × Obj)} {σ : L2.St} {H : Hp} {s : Shared} {pos : Pos} {Q : List Value → Shared → Prop}, CSs X es xs → Inv X pins σ H s →
    (∀ us s', us.length = xs.length → (∀ (n : Nat) (u : Value), us[n]? = some u → ∃ z tok, u = .str z tok ∧ z ∈ xs ∧ s.toks ≤ tok) → s.toks ≤ s'.toks → s'.heap = s.heap → Inv X pins σ H s' → Q us s') →
    wpAny (model X.prog X.w) X.A (spliced (backTo pos (starEach es X.env))) Q X.xe s
  | [], [], pins, σ, H, s, pos, Q, _, I, h => Calls.spliced_nil (h [] s rfl (fun n u e => by simp at e) (Nat.le_refl _) rfl I)
  | [], _ :: _, _, _, _, _, _, _, c, _, _ => c.elim
  | _ :: _, [], _, _, _, _, _, _, c, _, _ => c.elim
  | e :: es, x :: xs, pins, σ, H, s, pos, Q, ⟨⟨j, p, he⟩, hs, c⟩, I, h => by
    subst he
    rw [hs]
    show wpAny _ _ (spliced ((false, eval _ X.env) :: backTo pos (starEach es X.env))) _ _ s
    refine Calls.spliced_cons (Calls.Constant_str ?_)
    refine css_run (s := { s with toks := s.toks + 1 }) c (I.tok _) fun us s' h1 h2 h3 h4 I' => ?_
    refine h (.str x s.toks :: us) s' (by simp [h1]) (fun n u e => ?_) (Nat.le_trans (Nat.le_succ _) h3) h4 I'
    cases n with
    | zero =>
      have e' : Value.str x s.toks = u := by simpa using e
      exact ⟨x, s.toks, e'.symm, List.mem_cons_self, Nat.le_refl _⟩
    | succ n =>
      obtain ⟨z, tok, q1, q2, q3⟩ := h2 n u (by simpa using e)
      exact ⟨z, tok, q1, List.mem_cons_of_mem _ q2, Nat.le_trans (Nat.le_succ _) q3⟩
noncomputable def tIx2 (n : Nat) (ti : TE) : T2 := fun σ H R => ti σ H fun y H' => ∃ i : Int, y = .int i ∧ 0 ≤ i ∧ i < (n : Int) ∧ R H'
theorem p2_ix {y : Str} {es : List Expr} {xs : List Str} {b : Expr} {ti : TE} {pos pos' : Pos} (c : CSs X es xs) (hn : xs.length ≤ 1000) (hall : ∀ z ∈ xs, (y == z) = false ∧ z.length ≤ 10) (hb : PE X b ti) (hs : PlainIx b) :
    P2 X y (.Subscript (.List es pos) b pos') (tIx2 xs.length ti) := by
  intro pins s σ H R I q
  refine Subscript_ (wpAny_List_spliced (css_run (pos := pos) c I fun us s1 h1 h2 h3 h4 I1 => ⟨Nat.le_of_lt (small1000 (by rw [h1]; exact hn)), ?_⟩))
  have hf : H s1.heap.objs.size = none := I1.hok.fresh (Nat.le_refl _)
  have I2 : Inv X pins σ H { s1 with heap := s1.heap.push { cls := .type "list", data := .seq us.toArray } } := I1.kept (t' := s1.toks) fun b o e => Heap.get?_push_of_some _ e
  have e0 : (s1.heap.push { cls := .type "list", data := .seq us.toArray }).get? s1.heap.objs.size = some { cls := .type "list", data := .seq us.toArray } := Heap.get?_push_size _ rfl
  have fp : ∀ b ∈ [s1.heap.objs.size], FpOk X pins H b := fun b hb => by
    have e : b = s1.heap.objs.size := by simpa using hb
    subst e
    exact I1.fpOk (Nat.le_refl _) hf
  have I3 := I2.pinned fp fun b hb => by
    have e : b = s1.heap.objs.size := by simpa using hb
    subst e
    exact ⟨_, e0, fun v z => by cases z⟩
  refine thn (hb _ _ σ H _ I3 q) fun v s4 ⟨w, H4, I4, r4, i, e4, i0, i1, hR⟩ => ?_
  subst e4
  obtain ⟨t, rfl⟩ := r4
  have e5 := (I4.pin (s1.heap.objs.size, _) (List.mem_append_right _ (List.mem_append_right _ (mem_pinsAt (List.mem_singleton.mpr rfl) e0)))).1
  have hlt : i.toNat < us.length := by rw [h1]; omega
  obtain ⟨z, tok, g1, g2, g3⟩ := h2 i.toNat _ (List.getElem?_eq_getElem hlt)
  have hil : s4.heap.IsList s1.heap.objs.size us.toArray := ⟨_, e5, rfl, _, rfl⟩
  have hn2 := line63
  refine item_listR hil i0 (by omega) (x := .str z tok) (by rw [← g1]; simp [hlt]) ?_ (hs _ _)
  exact ⟨z, tok, H4, rfl, g3, (hall z g2).1, (hall z g2).2, I4.unpinned, hR⟩
noncomputable def tIfRep (i j : Nat) (k : Int) (t2 : T2) : TS := fun D σ H => ∃ n : Int, σ[i]? = some (some (.int n)) ∧ if n = k then ∃ z : Str, σ[j]? = some (some (.str z)) ∧ z.length ≤ 100000 ∧ t2 σ H fun H' => ∀ z' : Str, z'.length ≤ z.length + 10 → D.rt (.str z') H' else D.nx σ H
theorem ps_ifRep {i j : Nat} {k : Int} {xi xj y : Str} {e2 : Expr} {t2 : T2} {p1 p2 p3 p4 p5 p6 p7 p8 p9 : Pos} {k1 k2 k3 : Nat} (hi : X.N[i]? = some xi) (hj : X.N[j]? = some xj) (vi : Vis X.env.scope xi) (vj : Vis X.env.scope xj) (h2 : P2 X y e2 t2)
    (di : (xi == ("__debug__" : Str)) = false := by decide) (ci : (xi == ("__classdict__" : Str)) = false := by decide) (dj : (xj == ("__debug__" : Str)) = false := by decide) (cj : (xj == ("__classdict__" : Str)) = false := by decide)
    (hbase : attributeBase (.Name xj p3) "replace" X.env (eval (.Name xj p3) X.env) = eval (.Name xj p3) X.env := by rfl)
    (hfew : ((backTo p7 (starEach [.Constant (.str y) k1 p4, e2, .Constant (.int 1) k2 p5] X.env)).all (fun x => !x.1) && (backToKw p7 (keywordEach [] X.env)).all (fun x => x.1.isSome)
      && decide (([.Constant (.str y) k1 p4, e2, .Constant (.int 1) k2 p5] : List Expr).length + ([] : List Keyword).length + (if ([] : List Keyword).isEmpty then 0 else 1) < 30)) = true := by rfl)
    (hline : (p6.endLine == p7.line) = true := by rfl)
    (hs1 : starEach [.Constant (.str y) k1 p4, e2, .Constant (.int 1) k2 p5] X.env = (false, eval (.Constant (.str y) k1 p4) X.env) :: starEach [e2, .Constant (.int 1) k2 p5] X.env := by rfl)
    (hs2 : starEach [e2, .Constant (.int 1) k2 p5] X.env = (false, eval e2 X.env) :: starEach [.Constant (.int 1) k2 p5] X.env := by rfl) :
    PS X (.If (.Compare (.Name xi p1) [.Eq] [.Constant (.int k) k3 p2] p9) [.Return (some (.Call (.Attribute (.Name xj p3) "replace" p6) [.Constant (.str y) k1 p4, e2, .Constant (.int 1) k2 p5] [] p7)) p8] [] pos) (tIfRep i j k t2) := by
  intro pins s σ H D I h
  obtain ⟨n, e, h⟩ := h
  have name : ∀ {i : Nat} {x : Str} {v : V} {p : Pos} {s : Shared} {H : Hp} {Q : Value → Shared → Prop}, X.N[i]? = some x → Vis X.env.scope x → (x == ("__debug__" : Str)) = false → (x == ("__classdict__" : Str)) = false → Inv X pins σ H s → σ[i]? = some (some v) → (∀ u, RelV v u → Q u s) → wpAny (model X.prog X.w) X.A (eval (.Name x p) X.env) Q X.xe s := by
    intro i x v p s H Q hN hv hd hcd I e q
    obtain ⟨m, hn, hl⟩ := I.loc
    obtain ⟨u, r, l⟩ := hl i x v hN e hv
    have fin : Q u s := q u r
    rcases l with ⟨hk, hm⟩ | ⟨hk, c, hc, hcell⟩
    · exact wpAny_Name (wpAny_loadName_local I.ok.kind hk hn hm fin) hd
    · rcases hk with hk | hk
      · exact wpAny_Name (wpAny_loadName_cell I.ok.kind hk hc hcell fin) hd
      · exact wpAny_Name (wpAny_loadName_free I.ok.kind hk hc hcell fin hcd) hd
  refine wpAny_If (wpAny_isTrue_Compare1 (name hi vi di ci I e fun u ru => ?_) (nobehind _ (by decide) (by decide)))
  obtain ⟨tn, rfl⟩ := ru
  refine wpAny_Constant_int (eq_int (wpAny_truthy_bool ?_))
  by_cases hk : n = k
  · rw [if_pos hk] at h
    obtain ⟨z, ez, hz, q⟩ := h
    have hb : (n == k) = true := by simpa using hk
    rw [hb]
    have I1 : Inv X pins σ H { s with toks := s.toks + 1 } := I.tok _
    refine wpAny_execs_cons (wpAny_Return_some (wpAny_Call_method_late hbase hfew hline rfl (name hj vj dj cj I1 ez fun u ru => ?_)))
    obtain ⟨tz, rfl⟩ := ru
    refine ⟨"str", "str.replace", PySem.F.plainAttrs_str, PySem.F.slot_str_replace, PySem.F.type_str_replace, typeIs_str _ _ _, (fun a q => by cases q), ?_⟩
    rw [hs1, hs2]
    refine Calls.callWith_builtin (by rfl) (Calls.evalArgs_plain ?_)
    show wpAny _ _ (spliced ((false, eval (.Constant (.str y) k1 p4) X.env) :: (false, eval e2 X.env) :: backTo p7 (starEach [.Constant (.int 1) k2 p5] X.env))) _ _ _
    refine Calls.spliced_cons (Calls.Constant_str ?_)
    refine Calls.spliced_cons (thn (h2 pins _ σ H _ (I1.tok _) q) fun v s2 ⟨z2, tok, H2, ev, g1, g2, g3, I2, g4⟩ => ?_)
    subst ev
    show wpAny _ _ (spliced ((false, eval (.Constant (.int 1) k2 p5) X.env) :: backTo p7 (starEach [] X.env))) _ _ _
    refine Calls.spliced_cons (wpAny_Constant_int (Calls.spliced_nil ?_))
    have g1' : s.toks + 1 + 1 ≤ tok := g1
    have u0 : (s.toks + 1 == 0 || tok == 0) = false := by
      rw [Bool.or_eq_false_iff]
      exact ⟨beq_eq_false_iff_ne.mpr (Nat.succ_ne_zero _), beq_eq_false_iff_ne.mpr (Nat.ne_of_gt (Nat.lt_of_lt_of_le (Nat.succ_pos _) g1'))⟩
    have u1 : (s.toks + 1 == tok) = false := beq_eq_false_iff_ne.mpr (Nat.ne_of_lt g1')
    refine call_gives PySem.F.slot_str_replace (typeIs_str _ _ _) PySem.F.entry_str_replace (PySem.F.args_str_replace_4 _ _ _ _) (gives_rep1 z y z2 tz (s.toks + 1) tok _ u0 u1 g2 (by omega)) ?_
    have fin : ∀ (z' : Str) (t' : Tok) (k' : Nat), z'.length ≤ z.length + 10 → SP X pins D (.ret (.str z' t')) { s2 with toks := k' } := fun z' t' k' hl => ⟨.str z', σ, H2, I2.tok _, ⟨_, rfl⟩, g4 z' hl⟩
    split
    · exact fin z tz _ (by omega)
    · have hl := rep1_len z y z2
      exact ⟨by rw [sizeLine_eq]; omega, fin _ _ _ (by omega)⟩
  · rw [if_neg hk] at h
    have hb : (n == k) = false := by simpa using hk
    rw [hb]
    exact wpAny_execs_nil ⟨σ, H, I.tok _, h⟩
end
end Lx
namespace Dl
open PySem PySem.Spec PyProof.Rows L2 Lx
section
variable {X : Cx}
noncomputable def rRfind : V → List V → Hp → VK → Prop := fun x vs H Q => ∃ z y, x = .str z ∧ vs = [.str y] ∧ ∀ n : Int, Q (.int n) H
theorem mt_rfind : MtR X "str.rfind" rRfind := by
  intro pins s σ H x xs v us Q I rx rs h
  obtain ⟨z, y, rfl, rfl, q⟩ := h
  obtain ⟨t, rfl⟩ := rx
  obtain ⟨u, rfl, t', rfl⟩ := vals1 rs
  exact call_gives PySem.F.slot_str_rfind (typeIs_str _ _ _) PySem.F.entry_str_rfind (PySem.F.args_str_rfind_2 _ _) (gives_str_rfind z y t t') ⟨.int _, H, I.tok _, ⟨_, rfl⟩, q _⟩
end
section
variable {K : PySem.W.Frag} {H₀ : Hp} {E : XK} {te ta tb : TE} {da db de : DE} {dl : DL} {tt : TT} {dt : DT} {g : TG} {dg : DG} {ns : List Nat}
noncomputable def dRfind (da db : DE) (ex : DX) (δ : DEn) (Q : PyData → Prop) : Prop := da ex δ fun x => match x with
  | .str _ => db ex δ fun y => match y with
    | .str _ => ∀ n : Int, Q (.int n)
    | _ => False
  | _ => False
theorem ev_rfind (h1 : BvD K H₀ E ta da) (h2 : BvD K H₀ E tb db) : EvD K H₀ E (tBM K "str" rRfind ta (tCons tb tNil)) (dRfind da db) := fun ex δ σ G H Qd Q hx S q k =>
  h1 ex δ σ G H _ _ hx S q fun x d1 G1 H1 e1 hx1 q1 => by
    split at q1
    · cases dv_str hx1
      refine ⟨rfl, h2 ex δ σ G1 H1 _ _ hx (S.ext e1) q1 fun y d2 G2 H2 e2 hy q2 => ?_⟩
      split at q2
      · cases dv_str hy
        exact ⟨_, _, rfl, rfl, fun n => k _ _ G2 H2 (e1.trans e2) (.int _) (q2 n)⟩
      · exact q2.elim
    · exact q1.elim
noncomputable def dLCX (dl : DL) (cap : List (Option Nat)) (dg : DG) (dt : DT) (de : DE) (ex : DX) (δ : DEn) (Q : List PyData → Prop) : Prop := dl ex δ fun ds => ds.length ≤ 100000 ∧ ∃ I : Nat → List PyData → Prop, I 0 [] ∧
  (∀ i d acc, ds[i]? = some d → I i acc → dg d (capD cap δ) fun δ2 => dt ex δ2 fun b => if b = true then de ex δ2 fun y => I (i + 1) (acc ++ [y]) else I (i + 1) acc) ∧ ∀ acc, I ds.length acc → Q acc
theorem ov_lcX {wi : TI} {cap : List (Option Nat)} (hi : IvE K H₀ E wi dl) (hg : GvD K H₀ g ns dg) (ht : TvD K H₀ E tt dt) (he : EvD K H₀ E te de) (hn : (cap.filterMap id).Nodup) (hns : ns.all (fun j => (cap[j]?.bind id).isNone) = true) : OvD K H₀ E (tLC wi cap g tt te) (dLCX dl cap dg dt de) := fun ex δ σ G H Qd Q hx S q k =>
  hi ex δ σ G H _ _ hx S q fun J xs G1 H1 e1 it ⟨hlen, I, i0, step, fin⟩ => by
    intro D hD
    obtain ⟨eD, gD⟩ := ext_newL (xs := []) e1.s hD
    refine ⟨fun i m σc Hc => m = xs.length - i ∧ i ≤ xs.length ∧ CapSt cap σ σc ∧ ∃ G' acc ys, Ext G1 H1 G' Hc ∧ G' D = none ∧ Hc D = some (.lst ys) ∧ DVs K G' ys acc ∧ acc.length ≤ i ∧ I i acc,
      ⟨_, rfl, Nat.zero_le _, capst0, G1, [], [], eD, gD, upd_same, .nil, Nat.le_refl _, i0⟩, ?_⟩
    rintro i m σc Hc ⟨rfl, hil, cs, G', acc, ys, e', gd, hd, hv, hal, hI⟩
    obtain ⟨t1, t2⟩ := it G' Hc e' i
    by_cases hlt : i < xs.length
    · obtain ⟨g1, g2⟩ := t1 _ (List.getElem?_eq_getElem hlt)
      refine .inr ⟨g1, fun σ2 H2 => CapSt cap σ σ2 ∧ ∃ G' acc ys, Ext G1 H1 G' H2 ∧ G' D = none ∧ H2 D = some (.lst ys) ∧ DVs K G' ys acc ∧ acc.length ≤ i + 1 ∧ I (i + 1) acc, fun σ2 H2 z => ⟨_, by omega, rfl, hlt, z⟩, fun x H2 y => ?_⟩
      obtain ⟨G2, e2, hx2⟩ := g2 x H2 y
      have S2 : Sees K H₀ G2 (capD cap δ) σc H2 := capSees S (e1.trans (e'.trans e2)) hn cs
      refine hg x _ _ σc G2 H2 _ _ S2 hx2 (step i _ acc (List.getElem?_eq_getElem hlt) hI) fun δ3 σ3 S3 kp q3 => ?_
      have cs3 : CapSt cap σ σ3 := ⟨kp.1.trans cs.1, fun j z hj => by
        rw [kp.2 j (fun hm => by
          have := List.all_eq_true.mp hns j hm
          rw [hj] at this
          cases this)]
        exact cs.2 j z hj⟩
      refine ht ex δ3 σ3 G2 H2 _ _ hx S3 q3 fun b G4 H4 e4 q4 => ?_
      cases b with
      | true =>
        refine he ex δ3 σ3 G4 H4 _ _ hx (S3.ext e4) q4 fun y dy G5 H5 e5 hy q5 => ?_
        have e25 : Ext G' Hc G5 H5 := e2.trans (e4.trans e5)
        have gd5 : G5 D = none := e25.keep gd hd
        have hd5 : H5 D = some (.lst ys) := e25.h _ _ hd
        have e15 : Ext G1 H1 G5 H5 := e'.trans e25
        refine ⟨ys, hd5, txtL (by rw [hv.len]; omega), cs3, G5, acc ++ [dy], ys ++ [y], ⟨e15.g, fun b o z => ?_, fun b => ?_, e15.n⟩, gd5, upd_same, (dvs_same e25.g hv).append (.cons hy .nil), by rw [List.length_append]; simp; exact hal, q5⟩
        · rw [upd_ne (ne_of_none z hD)]; exact e15.h b o z
        · by_cases w : b = D
          · subst w; exact .inr ⟨gd5, _, upd_same⟩
          · rw [upd_ne w]; exact e15.s b
      | false =>
        have e24 : Ext G' Hc G4 H4 := e2.trans e4
        exact ⟨cs3, G4, acc, ys, e'.trans e24, e24.keep gd hd, e24.h _ _ hd, dvs_same e24.g hv, Nat.le_succ_of_le hal, q4⟩
    · have : i = xs.length := by omega
      subst this
      exact .inl ⟨t2 (Nat.le_refl _), k D ys acc G' Hc (e1.trans e') (e1.h.free hD) gd hd hv (fin acc hI)⟩
theorem lcX_map {α β : Type} {cap : List (Option Nat)} {ex : DX} {δ : DEn} {Q : List PyData → Prop} (f : α → PyData) (g : β → PyData) (F : α → List β) (P : α → Prop) (xs : List α) (hlen : xs.length ≤ 100000) (hl : ∀ Q, Q (xs.map f) → dl ex δ Q)
    (hs : ∀ x ∈ xs, ∀ N : List PyData → Prop, ∀ acc, (P x → N (acc ++ (F x).map g)) → dg (f x) (capD cap δ) fun δ2 => dt ex δ2 fun b => if b = true then de ex δ2 fun y => N (acc ++ [y]) else N acc)
    (hd : (∀ x ∈ xs, P x) → Q ((xs.flatMap F).map g)) : dLCX dl cap dg dt de ex δ Q :=
  hl _ ⟨by rw [List.length_map]; exact hlen, fun i acc => acc = ((xs.take i).flatMap F).map g ∧ ∀ x ∈ xs.take i, P x, ⟨by simp, by simp⟩, fun i d acc hi hI => by
    rw [List.getElem?_map] at hi
    cases q : xs[i]? with
    | none => rw [q] at hi; cases hi
    | some x =>
      rw [q] at hi
      cases hi
      obtain ⟨rfl, hP⟩ := hI
      have e : xs.take (i + 1) = xs.take i ++ [x] := by
        rw [List.take_add_one, q]; rfl
      refine hs x (List.mem_of_getElem? q) (fun acc => acc = ((xs.take (i + 1)).flatMap F).map g ∧ ∀ x ∈ xs.take (i + 1), P x) _ fun px => ?_
      rw [e]
      refine ⟨by simp, fun z hz => ?_⟩
      rcases List.mem_append.mp hz with h | h
      · exact hP z h
      · rw [List.mem_singleton.mp h]; exact px, fun acc hI => by
    obtain ⟨rfl, hP⟩ := hI
    rw [List.length_map, List.take_of_length_le (Nat.le_refl _)] at hP ⊢
    exact hd hP⟩
noncomputable abbrev DR2 := DX → DEn → Prop → Prop
noncomputable def Ev2 (K : PySem.W.Frag) (H₀ : Hp) (E : XK) (t2 : T2) (d2 : DR2) : Prop := ∀ ex δ σ G H Rd R, ExOk H₀ E ex → Sees K H₀ G δ σ H → d2 ex δ Rd → (∀ G' H', Ext G H G' H' → Rd → R H') → t2 σ H R
noncomputable def d2C (_ex : DX) (_δ : DEn) (R : Prop) : Prop := R
theorem e2_c : Ev2 K H₀ E (fun _ H R => R H) d2C := fun ex δ σ G H Rd R hx S q k => k G H S.refl q
noncomputable def d2Ix (n : Nat) (de : DE) (ex : DX) (δ : DEn) (R : Prop) : Prop := de ex δ fun d => ∃ i : Int, d = .int i ∧ 0 ≤ i ∧ i < (n : Int) ∧ R
theorem e2_ix {n : Nat} (h : BvD K H₀ E te de) : Ev2 K H₀ E (tIx2 n te) (d2Ix n de) := fun ex δ σ G H Rd R hx S q k =>
  h ex δ σ G H _ _ hx S q fun v d G' H' e hv ⟨i, hd, h0, h1, r⟩ => by
    subst hd
    cases dv_int hv
    exact ⟨i, rfl, h0, h1, k G' H' e r⟩
noncomputable def dIfRep (i j : Nat) (k : Int) (d2 : DR2) (e : DEnds) (δ : DEn) : Prop := match slot δ i with
  | some (.dat (.int n)) => if n = k then match slot δ j with
      | some (.dat (.str z)) => z.length ≤ 100000 ∧ d2 e.ex δ (∀ z' : Str, z'.length ≤ z.length + 10 → e.rt (.dat (.str z')))
      | _ => False
    else e.nx δ
  | _ => False
theorem sv_ifRep {i j : Nat} {k : Int} {t2 : T2} {d2 : DR2} (h : Ev2 K H₀ E t2 d2) : SvD K H₀ E (tIfRep i j k t2) (dIfRep i j k d2) := fun δ σ G H e D hx S q L => by
  unfold dIfRep at q
  split at q
  · rename_i n hs
    obtain ⟨v, h1, h2⟩ := S.has i _ hs
    cases dv_int h2
    refine ⟨n, h1, ?_⟩
    by_cases hk : n = k
    · rw [if_pos hk] at q ⊢
      split at q
      · rename_i z hz
        obtain ⟨v, g1, g2⟩ := S.has j _ hz
        cases dv_str g2
        exact ⟨z, g1, q.1, h e.ex δ σ G H _ _ hx S q.2 fun G' H' x r z' hl => L.rt _ (.dat (.str z')) H' (S.ext x).oldH (.str z') (r z' hl)⟩
      · exact q.elim
    · rw [if_neg hk] at q ⊢
      exact L.nx δ σ G H (Same.refl _) S q
  · exact q.elim
end
end Dl
namespace My
open PySem PySem.Spec PyProof.Rows L2 Lx Dl
noncomputable def top (i : Nat) : Stmt := PySem.Challenge.pw_leastmiss_k72_marks_read.main.body.getD i (.Pass ⟨0, 0, 0, 0⟩)
noncomputable abbrev s_common_divisor : Stmt := top 8
theorem sc_common_divisor : FnScope ["one", "other", "rest"] ["one", "other"] (defScope s_common_divisor) := ⟨rfl, rfl, rfl, by decide +kernel, rfl, by decide +kernel, by decide +kernel⟩
noncomputable abbrev s_fraction : Stmt := top 9
theorem sc_fraction : FnScope ["top", "bottom", "divisor"] ["top", "bottom"] (defScope s_fraction) := ⟨rfl, rfl, rfl, by decide +kernel, rfl, by decide +kernel, by decide +kernel⟩
noncomputable abbrev s_check_text : Stmt := top 14
theorem sc_check_text : FnScope ["text"] ["text"] (defScope s_check_text) := ⟨rfl, rfl, rfl, by decide +kernel, rfl, by decide +kernel, by decide +kernel⟩
noncomputable abbrev s_is_figures : Stmt := top 15
theorem sc_is_figures : FnScope ["text"] ["text"] (defScope s_is_figures) := ⟨rfl, rfl, rfl, by decide +kernel, rfl, by decide +kernel, by decide +kernel⟩
noncomputable abbrev s_read_whole : Stmt := top 16
theorem sc_read_whole : FnScope ["text", "figures"] ["text"] (defScope s_read_whole) := ⟨rfl, rfl, rfl, by decide +kernel, rfl, by decide +kernel, by decide +kernel⟩
noncomputable abbrev s_read_fraction : Stmt := top 17
theorem sc_read_fraction : FnScope ["text", "parts", "top", "bottom"] ["text"] (defScope s_read_fraction) := ⟨rfl, rfl, rfl, by decide +kernel, rfl, by decide +kernel, by decide +kernel⟩
noncomputable abbrev s_read_mark : Stmt := top 18
theorem sc_read_mark : FnScope ["text", "parts", "others", "place", "height", "weight"] ["text"] (defScope s_read_mark) := ⟨rfl, rfl, rfl, by decide +kernel, rfl, by decide +kernel, by decide +kernel⟩
noncomputable abbrev s_read_marks : Stmt := top 19
theorem sc_read_marks : FnScope ["text", "words"] ["text"] (defScope s_read_marks) := ⟨rfl, rfl, rfl, by decide +kernel, rfl, by decide +kernel, by decide +kernel⟩
noncomputable abbrev s_show_fraction : Stmt := top 20
theorem sc_show_fraction : FnScope ["x"] ["x"] (defScope s_show_fraction) := ⟨rfl, rfl, rfl, by decide +kernel, rfl, by decide +kernel, by decide +kernel⟩
noncomputable abbrev s_show_mark : Stmt := top 21
theorem sc_show_mark : FnScope ["mark"] ["mark"] (defScope s_show_mark) := ⟨rfl, rfl, rfl, by decide +kernel, rfl, by decide +kernel, by decide +kernel⟩
noncomputable abbrev s_show_marks : Stmt := top 22
theorem sc_show_marks : FnScope ["some"] ["some"] (defScope s_show_marks) := ⟨rfl, rfl, rfl, by decide +kernel, rfl, by decide +kernel, by decide +kernel⟩
noncomputable abbrev s_law_cell : Stmt := top 24
theorem sc_law_cell : FnScope ["script", "k"] ["script", "k"] (defScope s_law_cell) := ⟨rfl, rfl, rfl, by decide +kernel, rfl, by decide +kernel, by decide +kernel⟩
noncomputable abbrev s_law_sign : Stmt := top 25
theorem sc_law_sign : FnScope ["cell", "signs"] ["cell"] (defScope s_law_sign) := ⟨rfl, rfl, rfl, by decide +kernel, rfl, by decide +kernel, by decide +kernel⟩
noncomputable abbrev s_law_number : Stmt := top 26
theorem sc_law_number : FnScope ["word", "figures", "number", "sign"] ["word"] (defScope s_law_number) := ⟨rfl, rfl, rfl, by decide +kernel, rfl, by decide +kernel, by decide +kernel⟩
noncomputable abbrev s_law_divisor : Stmt := top 27
theorem sc_law_divisor : FnScope ["one", "other"] ["one", "other"] (defScope s_law_divisor) := ⟨rfl, rfl, rfl, by decide +kernel, rfl, by decide +kernel, by decide +kernel⟩
noncomputable abbrev s_law_value : Stmt := top 28
theorem sc_law_value : FnScope ["word", "first", "stroke", "second", "top", "bottom"] ["word"] (defScope s_law_value) := ⟨rfl, rfl, rfl, by decide +kernel, rfl, by decide +kernel, by decide +kernel⟩
noncomputable abbrev s_law_great : Stmt := top 29
theorem sc_law_great : FnScope ["cell"] ["cell"] (defScope s_law_great) := ⟨rfl, rfl, rfl, by decide +kernel, rfl, by decide +kernel, by decide +kernel⟩
noncomputable abbrev s_law_lowest : Stmt := top 30
theorem sc_law_lowest : FnScope ["top", "bottom", "great"] ["top", "bottom"] (defScope s_law_lowest) := ⟨rfl, rfl, rfl, by decide +kernel, rfl, by decide +kernel, by decide +kernel⟩
noncomputable abbrev s_law_mark : Stmt := top 31
theorem sc_law_mark : FnScope ["cell", "other", "place", "height"] ["cell", "other"] (defScope s_law_mark) := ⟨rfl, rfl, rfl, by decide +kernel, rfl, by decide +kernel, by decide +kernel⟩
noncomputable abbrev s_law_marks : Stmt := top 32
theorem sc_law_marks : FnScope ["script", "some", "k", "many"] ["script"] (defScope s_law_marks) := ⟨rfl, rfl, rfl, by decide +kernel, rfl, by decide +kernel, by decide +kernel⟩
noncomputable abbrev s_law_written : Stmt := top 33
theorem sc_law_written : FnScope ["x"] ["x"] (defScope s_law_written) := ⟨rfl, rfl, rfl, by decide +kernel, rfl, by decide +kernel, by decide +kernel⟩
noncomputable abbrev s_law_word : Stmt := top 34
theorem sc_law_word : FnScope ["mark"] ["mark"] (defScope s_law_word) := ⟨rfl, rfl, rfl, by decide +kernel, rfl, by decide +kernel, by decide +kernel⟩
noncomputable abbrev s_law_changed : Stmt := top 35
theorem sc_law_changed : FnScope ["text", "cell", "way", "place", "sign"] ["text", "cell"] (defScope s_law_changed) := ⟨rfl, rfl, rfl, by decide +kernel, rfl, by decide +kernel, by decide +kernel⟩
noncomputable abbrev s_law_spot : Stmt := top 36
theorem sc_law_spot : FnScope ["word", "place", "colon", "rest", "high", "star", "heavy", "weight"] ["word"] (defScope s_law_spot) := ⟨rfl, rfl, rfl, by decide +kernel, rfl, by decide +kernel, by decide +kernel⟩
noncomputable abbrev s_law_refused : Stmt := top 37
theorem sc_law_refused : FnScope ["text", "one", "kinds", "e"] ["text", "one"] (defScope s_law_refused) := ⟨rfl, rfl, rfl, by decide +kernel, rfl, by decide +kernel, by decide +kernel⟩
noncomputable abbrev s_law_good : Stmt := top 38
theorem sc_law_good : FnScope ["found", "due", "x"] ["found", "due"] (defScope s_law_good) := ⟨rfl, rfl, rfl, by decide +kernel, rfl, by decide +kernel, by decide +kernel⟩
noncomputable abbrev s_law_words : Stmt := top 39
theorem sc_law_words : FnScope ["words", "word", "due"] ["words"] (defScope s_law_words) := ⟨rfl, rfl, rfl, by decide +kernel, rfl, by decide +kernel, by decide +kernel⟩
noncomputable abbrev s_law : Stmt := top 40
theorem sc_law : FnScope ["script", "some", "text", "thing", "words", "due", "found", "k"] ["script"] (defScope s_law) := ⟨rfl, rfl, rfl, by decide +kernel, rfl, by decide +kernel, by decide +kernel⟩
set_option genInjectivity false in
structure Adr where
  a_common_divisor : Addr
  d_common_divisor : FuncData
  a_fraction : Addr
  d_fraction : FuncData
  a_check_text : Addr
  d_check_text : FuncData
  a_is_figures : Addr
  d_is_figures : FuncData
  a_read_whole : Addr
  d_read_whole : FuncData
  a_read_fraction : Addr
  d_read_fraction : FuncData
  a_read_mark : Addr
  d_read_mark : FuncData
  a_read_marks : Addr
  d_read_marks : FuncData
  a_show_fraction : Addr
  d_show_fraction : FuncData
  a_show_mark : Addr
  d_show_mark : FuncData
  a_show_marks : Addr
  d_show_marks : FuncData
  a_law_cell : Addr
  d_law_cell : FuncData
  a_law_sign : Addr
  d_law_sign : FuncData
  a_law_number : Addr
  d_law_number : FuncData
  a_law_divisor : Addr
  d_law_divisor : FuncData
  a_law_value : Addr
  d_law_value : FuncData
  a_law_great : Addr
  d_law_great : FuncData
  a_law_lowest : Addr
  d_law_lowest : FuncData
  a_law_mark : Addr
  d_law_mark : FuncData
  a_law_marks : Addr
  d_law_marks : FuncData
  a_law_written : Addr
  d_law_written : FuncData
  a_law_word : Addr
  d_law_word : FuncData
  a_law_changed : Addr
  d_law_changed : FuncData
  a_law_spot : Addr
  d_law_spot : FuncData
  a_law_refused : Addr
  d_law_refused : FuncData
  a_law_good : Addr
  d_law_good : FuncData
  a_law_words : Addr
  d_law_words : FuncData
  a_law : Addr
  d_law : FuncData
  x_MissError : Addr
  x_NoNumber : Addr
  x_NoMarks : Addr
  x_NoText : Addr
  x_NoName : Addr
  x_NoRow : Addr
structure Txt (K : PySem.W.Frag) (mg : Str → Option Value) (A : Adr) : Prop where
  F_common_divisor : Fun K "common_divisor" "common_divisor" s_common_divisor A.a_common_divisor A.d_common_divisor
  m_common_divisor : mg "common_divisor" = some (.ref A.a_common_divisor)
  b_common_divisor : Binds K A.d_common_divisor ["one", "other"] []
  F_fraction : Fun K "fraction" "fraction" s_fraction A.a_fraction A.d_fraction
  m_fraction : mg "fraction" = some (.ref A.a_fraction)
  b_fraction : Binds K A.d_fraction ["top", "bottom"] []
  F_check_text : Fun K "check_text" "check_text" s_check_text A.a_check_text A.d_check_text
  m_check_text : mg "check_text" = some (.ref A.a_check_text)
  b_check_text : Binds K A.d_check_text ["text"] []
  F_is_figures : Fun K "is_figures" "is_figures" s_is_figures A.a_is_figures A.d_is_figures
  m_is_figures : mg "is_figures" = some (.ref A.a_is_figures)
  b_is_figures : Binds K A.d_is_figures ["text"] []
  F_read_whole : Fun K "read_whole" "read_whole" s_read_whole A.a_read_whole A.d_read_whole
  m_read_whole : mg "read_whole" = some (.ref A.a_read_whole)
  b_read_whole : Binds K A.d_read_whole ["text"] []
  F_read_fraction : Fun K "read_fraction" "read_fraction" s_read_fraction A.a_read_fraction A.d_read_fraction
  m_read_fraction : mg "read_fraction" = some (.ref A.a_read_fraction)
  b_read_fraction : Binds K A.d_read_fraction ["text"] []
  F_read_mark : Fun K "read_mark" "read_mark" s_read_mark A.a_read_mark A.d_read_mark
  m_read_mark : mg "read_mark" = some (.ref A.a_read_mark)
  b_read_mark : Binds K A.d_read_mark ["text"] []
  F_read_marks : Fun K "read_marks" "read_marks" s_read_marks A.a_read_marks A.d_read_marks
  m_read_marks : mg "read_marks" = some (.ref A.a_read_marks)
  b_read_marks : Binds K A.d_read_marks ["text"] []
  F_show_fraction : Fun K "show_fraction" "show_fraction" s_show_fraction A.a_show_fraction A.d_show_fraction
  m_show_fraction : mg "show_fraction" = some (.ref A.a_show_fraction)
  b_show_fraction : Binds K A.d_show_fraction ["x"] []
  F_show_mark : Fun K "show_mark" "show_mark" s_show_mark A.a_show_mark A.d_show_mark
  m_show_mark : mg "show_mark" = some (.ref A.a_show_mark)
  b_show_mark : Binds K A.d_show_mark ["mark"] []
  F_show_marks : Fun K "show_marks" "show_marks" s_show_marks A.a_show_marks A.d_show_marks
  m_show_marks : mg "show_marks" = some (.ref A.a_show_marks)
  b_show_marks : Binds K A.d_show_marks ["some"] []
  F_law_cell : Fun K "_law_cell" "_law_cell" s_law_cell A.a_law_cell A.d_law_cell
  m_law_cell : mg "_law_cell" = some (.ref A.a_law_cell)
  b_law_cell : Binds K A.d_law_cell ["script", "k"] []
  F_law_sign : Fun K "_law_sign" "_law_sign" s_law_sign A.a_law_sign A.d_law_sign
  m_law_sign : mg "_law_sign" = some (.ref A.a_law_sign)
  b_law_sign : Binds K A.d_law_sign ["cell"] []
  F_law_number : Fun K "_law_number" "_law_number" s_law_number A.a_law_number A.d_law_number
  m_law_number : mg "_law_number" = some (.ref A.a_law_number)
  b_law_number : Binds K A.d_law_number ["word"] []
  F_law_divisor : Fun K "_law_divisor" "_law_divisor" s_law_divisor A.a_law_divisor A.d_law_divisor
  m_law_divisor : mg "_law_divisor" = some (.ref A.a_law_divisor)
  b_law_divisor : Binds K A.d_law_divisor ["one", "other"] []
  F_law_value : Fun K "_law_value" "_law_value" s_law_value A.a_law_value A.d_law_value
  m_law_value : mg "_law_value" = some (.ref A.a_law_value)
  b_law_value : Binds K A.d_law_value ["word"] []
  F_law_great : Fun K "_law_great" "_law_great" s_law_great A.a_law_great A.d_law_great
  m_law_great : mg "_law_great" = some (.ref A.a_law_great)
  b_law_great : Binds K A.d_law_great ["cell"] []
  F_law_lowest : Fun K "_law_lowest" "_law_lowest" s_law_lowest A.a_law_lowest A.d_law_lowest
  m_law_lowest : mg "_law_lowest" = some (.ref A.a_law_lowest)
  b_law_lowest : Binds K A.d_law_lowest ["top", "bottom"] []
  F_law_mark : Fun K "_law_mark" "_law_mark" s_law_mark A.a_law_mark A.d_law_mark
  m_law_mark : mg "_law_mark" = some (.ref A.a_law_mark)
  b_law_mark : Binds K A.d_law_mark ["cell", "other"] []
  F_law_marks : Fun K "_law_marks" "_law_marks" s_law_marks A.a_law_marks A.d_law_marks
  m_law_marks : mg "_law_marks" = some (.ref A.a_law_marks)
  b_law_marks : Binds K A.d_law_marks ["script"] []
  F_law_written : Fun K "_law_written" "_law_written" s_law_written A.a_law_written A.d_law_written
  m_law_written : mg "_law_written" = some (.ref A.a_law_written)
  b_law_written : Binds K A.d_law_written ["x"] []
  F_law_word : Fun K "_law_word" "_law_word" s_law_word A.a_law_word A.d_law_word
  m_law_word : mg "_law_word" = some (.ref A.a_law_word)
  b_law_word : Binds K A.d_law_word ["mark"] []
  F_law_changed : Fun K "_law_changed" "_law_changed" s_law_changed A.a_law_changed A.d_law_changed
  m_law_changed : mg "_law_changed" = some (.ref A.a_law_changed)
  b_law_changed : Binds K A.d_law_changed ["text", "cell"] []
  F_law_spot : Fun K "_law_spot" "_law_spot" s_law_spot A.a_law_spot A.d_law_spot
  m_law_spot : mg "_law_spot" = some (.ref A.a_law_spot)
  b_law_spot : Binds K A.d_law_spot ["word"] []
  F_law_refused : Fun K "_law_refused" "_law_refused" s_law_refused A.a_law_refused A.d_law_refused
  m_law_refused : mg "_law_refused" = some (.ref A.a_law_refused)
  b_law_refused : Binds K A.d_law_refused ["text", "one"] []
  F_law_good : Fun K "_law_good" "_law_good" s_law_good A.a_law_good A.d_law_good
  m_law_good : mg "_law_good" = some (.ref A.a_law_good)
  b_law_good : Binds K A.d_law_good ["found", "due"] []
  F_law_words : Fun K "_law_words" "_law_words" s_law_words A.a_law_words A.d_law_words
  m_law_words : mg "_law_words" = some (.ref A.a_law_words)
  b_law_words : Binds K A.d_law_words ["words"] []
  F_law : Fun K "law" "law" s_law A.a_law A.d_law
  m_law : mg "law" = some (.ref A.a_law)
  b_law : Binds K A.d_law ["script"] []
  x_MissError : ExcCl K mg "MissError" A.x_MissError
  x_NoNumber : ExcCl K mg "NoNumber" A.x_NoNumber
  x_NoMarks : ExcCl K mg "NoMarks" A.x_NoMarks
  x_NoText : ExcCl K mg "NoText" A.x_NoText
  x_NoName : ExcCl K mg "NoName" A.x_NoName
  x_NoRow : ExcCl K mg "NoRow" A.x_NoRow
  xk_NoText : ExcK K A.x_NoText
  e_NoText_MissError : PySem.W.exmOne K (.ref A.x_NoText) (.ref A.x_MissError) = some true
  k_NoText_NoText : PySem.W.kitOne K (.ref A.x_NoText) (.ref A.x_NoText) = some true
  k_NoText_ValueError : PySem.W.kitOne K (.ref A.x_NoText) (.type "ValueError") = some true
  k_NoText_NoMarks : PySem.W.kitOne K (.ref A.x_NoText) (.ref A.x_NoMarks) = some false
  k_NoText_NoRow : PySem.W.kitOne K (.ref A.x_NoText) (.ref A.x_NoRow) = some false
  k_NoText_NoName : PySem.W.kitOne K (.ref A.x_NoText) (.ref A.x_NoName) = some false
  n_ValueError : mg "ValueError" = none
  n_abs : mg "abs" = none
  n_all : mg "all" = none
  n_bool : mg "bool" = none
  n_int : mg "int" = none
  n_isinstance : mg "isinstance" = none
  n_len : mg "len" = none
  n_list : mg "list" = none
  n_mark : mg "mark" = none
  n_max : mg "max" = none
  n_min : mg "min" = none
  n_range : mg "range" = none
  n_sign : mg "sign" = none
  n_str : mg "str" = none
  n_tuple : mg "tuple" = none
  n_word : mg "word" = none
  c_FIGURES : ∃ t, mg "FIGURES" = some (.str "0123456789" t)
  c_MOST_FIGURES : ∃ t, mg "MOST_FIGURES" = some (.int 40 t)
  c_MOST_MARKS : ∃ t, mg "MOST_MARKS" = some (.int 60 t)
noncomputable abbrev bt_abs := PyProof.Rows.boot_abs
noncomputable abbrev bt_isinstance := PyProof.Rows.boot_isinstance
noncomputable abbrev bt_int := PyProof.Rows.boot_int
noncomputable abbrev bt_bool := PyProof.Rows.boot_bool
noncomputable abbrev bt_tuple := PyProof.Rows.boot_tuple
noncomputable abbrev bt_list := PyProof.Rows.boot_list
noncomputable abbrev bt_min := PyProof.Rows.boot_min
noncomputable abbrev bt_max := PyProof.Rows.boot_max
theorem bt_ValueError : bootBuiltins "ValueError" = some (.type "ValueError") := by decide +kernel
local macro_rules | `(tactic| walk_at "d") => `(tactic| (try simp only [startN, slot, put, dVar, dBVar, dLVar, dC, dFz, dAsL, dNil, dCons, dTup, dLst, dOp, oI, oI0, oB0, oEq, oNe, oIsN, dNeg, dIxK, nth, dMap, oIxs, oCats, oInS, oNInS, bLens, bIntS, bStr, dSlS, dFind, dRfind, dIfRep, d2C, d2Ix, dPartn, dAsS, dCb, bAbs, bMin, bMax, bLen, dListOf, dJoin, dSplit, dNoP, dPart, dSl, dForN, dLstB, dAsB, dAnd, dOr, dNot, dIfE, dCall, dCall0, dCallO0, dNext, dRet, dRetO, dRetV, dDrop, dIfS, gvName, gvNil, gvCons, gvTup, dAsg, dSetO, noOwn, frzAt, dFrz, dPar, dRaise, dApp, dRng1, dRng3, capD, dYes, dIsi, isD, tyD, dCat, dMVar, dIxL, xIf, xCallD, nox, dTryAs, forget, dIsX, bAll, flatS, ownS, flatD, flatDs, Bool.and_true, Bool.true_and, Bool.and_self, Bool.not_true, Bool.not_false, true_and, and_true, decide_eq_true_eq, Bool.not_eq_true', decide_eq_false_iff_not, if_true, if_false, ite_true, ite_false, Bool.false_eq_true, Bool.true_eq_false, not_true_eq_false, not_false_eq_true, reduceCtorEq, List.length_cons, List.length_nil, List.length_map]))
local macro_rules | `(tactic| walk_at "s") => `(tactic| (walk_at "d"; refine seq_mk ?_; walk_at "d"))
theorem bt_str : bootBuiltins "str" = some (.type "str") := by decide +kernel
noncomputable abbrev fr (q : Rat) : PyData := .tuple [.int q.num, .int (q.den : Int)]
theorem wee_nat {g : Nat} {b : Int} (h : g ≤ b.natAbs) (hb : Wee b) : Wee (g : Int) := by
  unfold Wee at *
  omega
theorem wee_neg {b : Int} (hb : Wee b) : Wee (-b) := by
  unfold Wee at *
  omega
theorem cpow {i j : Int} (h : decide (0 ≤ j ∧ j ≤ 1000000 ∧ i.natAbs < 2 ^ 64) = true) : CPow i j := (of_decide_eq_true h : 0 ≤ j ∧ j ≤ 1000000 ∧ i.natAbs < 2 ^ 64)
theorem wee {i : Int} (h : decide (i.natAbs < 2 ^ 8000) = true) : Wee i := (of_decide_eq_true h : i.natAbs < 2 ^ 8000)
theorem weeLe {i : Int} {n : Nat} (h : i.natAbs ≤ n) (hn : decide (n < 2 ^ 8000) = true) : Wee i := Nat.lt_of_le_of_lt h (of_decide_eq_true hn)
theorem cdiv {i j : Int} (h : decide (0 < j ∧ j.natAbs < 2 ^ 8000) = true) : CDivB i j := (of_decide_eq_true h : 0 < j ∧ j.natAbs < 2 ^ 8000)
structure Ok (q : Rat) : Prop where
  n : Wee q.num
  d : Wee (q.den : Int)
section
variable {P : Program} {w : World} {K : PySem.W.Frag} {mg : Str → Option Value} {base : Heap} {A : Adr}
noncomputable def wGcd : DW := fun ds Q _ => ∃ a b : Int, ds = [.int a, .int b] ∧ 0 ≤ a ∧ 0 ≤ b ∧ Q (.dat (.int ((Int.gcd a b : Nat) : Int)))
theorem ok_common_divisor (T : Txt K mg A) : FnOk P w K mg base (CXE P w) 1 A.a_common_divisor A.d_common_divisor ["one", "other"] (spW K wGcd) := by
  refine okW T.F_common_divisor sc_common_divisor (fun ds Q E h => ?_) (fun cdv Ar outer s H E hr => ?_)
  · obtain ⟨a, b, rfl, _⟩ := h; rfl
  refine ⟨_, (pss_cons (ps_while PassesOwn.leaving (pt_cmpR op_ne (pv 1) pe_int (nomark _)) (pss_cons (ps_set (i := 2) sc_common_divisor.nd rfl (Or.inl rfl) (pe_op op_mod (pv 0) (pv 1)))
      (pss_cons (ps_set (i := 0) sc_common_divisor.nd rfl (Or.inl rfl) (pv 1))
      (pss_one (ps_set (i := 1) sc_common_divisor.nd rfl (Or.inl rfl) (pv 2))))))
      (pss_one (ps_ret (pv 0)))), _, (sv_seq (sv_while (tv_test (bv_ev (ev_op ro_ne (bv_var 1) (bv_ev ev_int)))) (sv_seq (sv_asg (ev_op ro_i (bv_var 0) (bv_var 1)) (gv_name 2))
      (sv_seq (sv_asg (ev_var 1) (gv_name 0))
      (sv_asg (ev_var 2) (gv_name 1)))))
      (sv_retV 0)), ?_⟩
  rintro ds Q X ⟨a, b, rfl, ha, hb, k⟩
  walk_at "s"
  refine ⟨fun m δ => ∃ x y r, δ = [some (.dat (.int x)), some (.dat (.int y)), r] ∧ m = y.toNat ∧ 0 ≤ x ∧ 0 ≤ y ∧ Int.gcd x y = Int.gcd a b, ⟨_, a, b, none, rfl, rfl, ha, hb, rfl⟩, ?_⟩
  rintro m δ ⟨x, y, r, rfl, rfl, hx, hy, hg⟩
  walk_at "d"
  refine ite2 (fun c => ?_) (fun c => ?_)
  · have hy0 : y ≠ 0 := c
    have hp : 0 < y := by omega
    walk_at "s"
    refine ⟨hp, ?_⟩
    walk_at "s"
    walk_at "d"
    refine ⟨_, ?_, y, x % y, _, rfl, rfl, hy, Int.emod_nonneg _ hy0, ?_⟩
    · have := Int.emod_lt_of_pos x hp
      have := Int.emod_nonneg x hy0
      omega
    · rw [Fm.gcd_step x y hp, hg]
  · have hy0 : y = 0 := Decidable.not_not.mp c
    subst hy0
    rw [← hg, Fm.gcd_zero hx] at k
    exact k
noncomputable def wFraction (C : Addr) : DW := fun ds Q X => ∃ t b : Int, ds = [.int t, .int b] ∧ Wee b ∧ (b = 0 → X C) ∧ (b ≠ 0 → Q (.dat (fr (Rat.divInt t b))))
theorem ok_fraction (T : Txt K mg A) : FnOk P w K mg base (CXE P w) 2 A.a_fraction A.d_fraction ["top", "bottom"] (spW K (wFraction A.x_NoNumber)) := by
  have G_common_divisor := ok_common_divisor (P := P) (w := w) (base := base) T
  refine okW T.F_fraction sc_fraction (fun ds Q E h => ?_) (fun cdv Ar outer s H E hr => ?_)
  · obtain ⟨a, b, rfl, _⟩ := h; rfl
  refine ⟨_, (pss_cons (ps_if (pt_cmpR op_eq (pv 1) pe_int (nomark _)) (pss_one (ps_raise T.x_NoNumber hr.hd pass_own rfl (pa_cons pe_str pa_nil))) pss_nil)
      (pss_cons (ps_set (i := 2) sc_fraction.nd rfl (Or.inl rfl) (pe_call G_common_divisor (hr.mono (by decide)) rfl T.m_common_divisor T.F_common_divisor.kp T.b_common_divisor .nil passE0 (pa_cons (pe_callB call_abs rfl T.n_abs bt_abs (pa_cons (pv 0) pa_nil)) (pa_cons (pe_callB call_abs rfl T.n_abs bt_abs (pa_cons (pv 1) pa_nil)) pa_nil))))
      (pss_cons (ps_if (pt_cmpR op_lt (pv 1) pe_int (nomark _)) (pss_one (ps_set (i := 2) sc_fraction.nd rfl (Or.inl rfl) (pe_un un_neg (pv 2)))) pss_nil)
      (pss_one (ps_ret (pe_tup (pa_cons (pe_op op_fdivW (pv 0) (pv 2)) (pa_cons (pe_op op_fdivW (pv 1) (pv 2)) pa_nil)))))))), _, (sv_seq (sv_if (tv_test (bv_ev (ev_op ro_eq (bv_var 1) (bv_ev ev_int)))) (sv_raise (ae_cons ev_str ae_nil) (by decide)) sv_next)
      (sv_seq (sv_asg (ev_call0 (av_cons (bv_ev (ev_cb rb_abs (av_cons (bv_var 0) av_nil))) (av_cons (bv_ev (ev_cb rb_abs (av_cons (bv_var 1) av_nil))) av_nil))) (gv_name 2))
      (sv_cut (sv_if (tv_test (bv_ev (ev_op ro_b0 (bv_var 1) (bv_ev ev_int)))) (sv_asg (ev_neg (bv_var 2)) (gv_name 2)) sv_next)
      (sv_ret (bv_ev (ev_tup (ae_cons (ev_op ro_i (bv_var 0) (bv_var 2)) (ae_cons (ev_op ro_i (bv_var 1) (bv_var 2)) ae_nil)) (by decide))))))), ?_⟩
  rintro ds Q X ⟨t, b, rfl, hw, k0, k1⟩
  walk_at "s"
  refine ite2 (fun c => ?_) (fun c => ?_)
  · exact k0 c
  have hb : b ≠ 0 := c
  have kq := k1 hb
  walk_at "s"
  refine ⟨_, _, rfl, by rw [Fm.abs_if]; omega, by rw [Fm.abs_if]; omega, ?_⟩
  have eg : Int.gcd (if t < 0 then -t else t) (if b < 0 then -b else b) = Int.gcd t b := by
    rw [Fm.abs_if, Fm.abs_if]
    simp [Int.gcd]
  rw [eg]
  walk_at "d"
  refine ?_
  have h1 := Fm.gcd_pos_right (a := t) hb
  have h2 := wee_nat (Fm.gcd_le_right (a := t) hb) hw
  refine cut_mk (fun δ => δ = [some (.dat (.int t)), some (.dat (.int b)), some (.dat (.int (if b < 0 then -((Int.gcd t b : Nat) : Int) else ((Int.gcd t b : Nat) : Int))))]) ?_ ?_
  · walk_at "d"
    refine ite2 (fun c2 => ?_) (fun c2 => ?_)
    · rw [if_pos c2]
    · rw [if_neg c2]
  · rintro δ rfl
    walk_at "d"
    have hg : (if b < 0 then -((Int.gcd t b : Nat) : Int) else ((Int.gcd t b : Nat) : Int)) ≠ 0 := by split <;> omega
    have hg2 : Wee (if b < 0 then -((Int.gcd t b : Nat) : Int) else ((Int.gcd t b : Nat) : Int)) := by
      split
      · exact wee_neg h2
      · exact h2
    refine ⟨⟨hg, hg2⟩, ⟨hg, hg2⟩, ?_⟩
    rw [Fm.fr_num hb, Fm.fr_den hb]
    exact kq
end
theorem flat_single {α β : Type} (f : α → β) : ∀ xs : List α, xs.flatMap (fun x => [f x]) = xs.map f
  | [] => rfl
  | x :: xs => by simp [flat_single f xs]
noncomputable abbrev Mk := Rat × Rat × Int
noncomputable def Bg (n : Nat) (v : Int) : Prop := v.natAbs < 2 ^ n
theorem Bg.bits {n : Nat} {v : Int} (h : Bg n v) : Builtin.Int.intBits v ≤ n := bits_lt h
theorem Bg.of {n : Nat} {v : Int} (h : Builtin.Int.intBits v ≤ n) : Bg (n + 1) v := by
  unfold Bg
  by_cases h0 : v = 0
  · subst h0; exact Nat.two_pow_pos _
  · unfold Builtin.Int.intBits at h
    rw [if_neg (by simpa using h0)] at h
    exact (Nat.log2_lt (by omega)).mp (by omega)
theorem Bg.mono {n m : Nat} {v : Int} (h : Bg n v) (l : n ≤ m) : Bg m v := Nat.lt_of_lt_of_le h (Nat.pow_le_pow_right (by decide) l)
theorem Bg.add {n : Nat} {a b : Int} (ha : Bg n a) (hb : Bg n b) : Bg (n + 1) (a + b) := by
  unfold Bg at *
  rw [Nat.pow_succ]
  have := Int.natAbs_add_le a b
  omega
theorem Bg.div {n : Nat} {a : Int} (ha : Bg n a) (k : Int) (hk : 0 < k) : Bg n (a / k) := by
  unfold Bg at *
  refine Nat.lt_of_le_of_lt ?_ ha
  by_cases h0 : 0 ≤ a
  · have h1 := Int.ediv_nonneg h0 (Int.le_of_lt hk)
    have h2 := Int.ediv_le_self k h0
    omega
  · have h1 : a / k < 0 := Int.ediv_neg_of_neg_of_pos (by omega) hk
    have h2 : a ≤ a / k := by
      refine (Int.le_ediv_iff_mul_le hk).mpr ?_
      have h := Int.mul_nonneg (a := -a) (b := k - 1) (by omega) (by omega)
      have e : (-a) * (k - 1) = a - a * k := by
        rw [Int.mul_sub, Int.neg_mul, Int.neg_mul, Int.mul_one]
        omega
      omega
    omega
theorem Bg.small {n : Nat} {a : Int} (h : a.natAbs < 2 ^ 64) (hn : 64 ≤ n) : Bg n a := Nat.lt_of_lt_of_le h (Nat.pow_le_pow_right (by decide) hn)
open Fm
noncomputable def eT2 {α β : Type} (a : Enc α) (b : Enc β) (h : a.dep ≤ 50) (h' : b.dep ≤ 50) : Enc (α × β) where
  d := fun p => .tuple [a.d p.1, b.d p.2]
  dep := a.dep + b.dep + 1 - min a.dep b.dep
  small := by omega
  lay := fun p => by
    show ((a.d p.1).canLay0 && ((b.d p.2).canLay0 && true)) = true
    rw [a.lay, b.lay]; rfl
  depth := fun p => by
    have h1 := a.depth p.1
    have h2 := b.depth p.2
    simp only [PyData.depth, PyData.depthAll]
    omega
  eqv := fun p q => by
    show PyData.eqvAll [a.d p.1, b.d p.2] [a.d q.1, b.d q.2] = true ↔ p = q
    have h1 := a.eqv p.1 q.1
    have h2 := b.eqv p.2 q.2
    simp only [PyData.eqvAll, Bool.and_eq_true, h1, h2, and_true]
    exact ⟨fun ⟨x, y⟩ => Prod.ext x y, fun e => by rw [e]; exact ⟨rfl, rfl⟩⟩
open PySem.NumText (AllDigits digitsVal)
theorem str_ext {x y : Str} (h : x.cps.toList = y.cps.toList) : x = y := by
  cases x; cases y
  simp only at h
  rw [Array.toList_inj.mp h]
theorem str_len (x : Str) : x.cps.toList.length = x.length := by simp [Str.length]
theorem sl_one (x : Str) : (PySem.Txt.slice x none (some 1)).cps.toList = x.cps.toList.take 1 := by
  have hl := str_len x
  by_cases h : 1 ≤ x.length
  · have e := slice_closes_to (x := x) (j := 1) ⟨by decide, by omega⟩
    rw [eq_of_beq e]
    simp
  · have e := PySem.Txt.slice_le x none (some 1)
    have e1 : (PySem.Txt.slice x none (some 1)).cps.toList = [] := List.length_eq_zero_iff.mp (by rw [str_len]; omega)
    have e2 : x.cps.toList = [] := List.length_eq_zero_iff.mp (by omega)
    rw [e1, e2]; rfl
theorem sl_rest (x : Str) : (PySem.Txt.slice x (some 1) none).cps.toList = x.cps.toList.drop 1 := by
  have hl := str_len x
  by_cases h : 1 ≤ x.length
  · have e := slice_closes_from (x := x) (i := 1) ⟨by decide, by omega⟩
    rw [eq_of_beq e]
    have e2 : ((x.cps.toList.length : Int) - 1).toNat = (x.cps.toList.drop 1).length := by rw [List.length_drop]; omega
    rw [e2]
    show List.take _ (x.cps.toList.drop (Int.toNat 1)) = _
    exact List.take_length
  · have e := PySem.Txt.slice_le x (some 1) none
    have e1 : (PySem.Txt.slice x (some 1) none).cps.toList = [] := List.length_eq_zero_iff.mp (by rw [str_len]; omega)
    have e2 : x.cps.toList = [] := List.length_eq_zero_iff.mp (by omega)
    rw [e1, e2]; rfl
theorem contains_find (x y : Str) : PySem.Txt.contains x y = decide (0 ≤ PySem.Txt.find x y) := by
  unfold PySem.Txt.contains PySem.Txt.find
  cases Builtin.Str.occurrences x y 0 x.length 1 with
  | nil => rfl
  | cons i r => simp
theorem part_not {x y : Str} (h : PySem.Txt.contains x y = false) : PySem.Txt.partition x y = (x, Str.empty, Str.empty) := by
  unfold PySem.Txt.contains at h
  unfold PySem.Txt.partition
  cases e : Builtin.Str.occurrences x y 0 x.length 1 with
  | nil => rfl
  | cons i r => rw [e] at h; cases h
theorem part_in {x y : Str} (h : PySem.Txt.contains x y = true) : (PySem.Txt.partition x y).2.1 = y := by
  unfold PySem.Txt.contains at h
  unfold PySem.Txt.partition
  cases e : Builtin.Str.occurrences x y 0 x.length 1 with
  | nil => rw [e] at h; cases h
  | cons i r => rfl
noncomputable def isDig (c : Nat) : Bool := decide (48 ≤ c) && decide (c ≤ 57)
theorem isDig_iff {c : Nat} : isDig c = true ↔ 48 ≤ c ∧ c ≤ 57 := by simp [isDig]
theorem figs10 : ("0123456789" : Str).cps.toList = [48, 49, 50, 51, 52, 53, 54, 55, 56, 57] := by decide +kernel
theorem find_fig (c : Nat) : PySem.Txt.find "0123456789" ⟨#[c]⟩ = if isDig c = true then (c : Int) - 48 else -1 := by
  have key : ∀ i : Nat, PySem.StrLaws.At "0123456789" ⟨#[c]⟩ ("0123456789" : Str).length i ↔ i < 10 ∧ c = 48 + i := by
    intro i
    unfold PySem.StrLaws.At
    have hl : ("0123456789" : Str).length = 10 := by decide +kernel
    have h1 : (⟨#[c]⟩ : Str).length = 1 := rfl
    rw [PySem.StrLaws.subAt_eq, figs10, hl, h1]
    constructor
    · rintro ⟨h2, h3⟩
      have h4 : i < 10 := by omega
      refine ⟨h4, ?_⟩
      have h5 := eq_of_beq h3
      have h6 : ∀ i : Nat, i < 10 → ([48, 49, 50, 51, 52, 53, 54, 55, 56, 57].drop i).take 1 = [48 + i] := by decide
      rw [h6 i h4] at h5
      have h7 : [48 + i] = [c] := h5
      injection h7 with h7
      omega
    · rintro ⟨h4, rfl⟩
      refine ⟨by omega, ?_⟩
      have h6 : ∀ i : Nat, i < 10 → ([48, 49, 50, 51, 52, 53, 54, 55, 56, 57].drop i).take 1 = [48 + i] := by decide
      rw [h6 i h4]
      exact beq_self_eq_true _
  rcases find_whole "0123456789" ⟨#[c]⟩ with ⟨h, hn⟩ | ⟨i, h, hi, _⟩
  · rw [h, if_neg]
    intro hc
    have hc := isDig_iff.mp hc
    exact hn (c - 48) ((key _).mpr ⟨by omega, by omega⟩)
  · obtain ⟨h1, h2⟩ := (key i).mp hi
    rw [h, if_pos (isDig_iff.mpr ⟨by omega, by omega⟩)]
    omega
theorem in_fig (c : Nat) : PySem.Txt.contains "0123456789" ⟨#[c]⟩ = isDig c := by
  rw [contains_find, find_fig]
  cases h : isDig c with
  | true =>
    have := isDig_iff.mp h
    rw [if_pos rfl]
    exact decide_eq_true (by omega)
  | false =>
    rw [if_neg Bool.false_ne_true]
    rfl
noncomputable def figs (cs : List Nat) : List Nat := if cs.head? = some 45 then cs.drop 1 else cs
noncomputable def figB (cs : List Nat) : Bool := decide (1 ≤ cs.length) && decide (cs.length ≤ 40) && !(decide (cs.head? = some 48) && decide (1 < cs.length)) && cs.all isDig
noncomputable def numF (cs : List Nat) : Option Int := if (!decide (cs = [45, 48]) && figB (figs cs)) = true then some (if cs.head? = some 45 then -((digitsVal (figs cs) : Nat) : Int) else ((digitsVal (figs cs) : Nat) : Int)) else none
noncomputable def optI : Option Int → PyData
  | none => .none
  | some n => .int n
noncomputable def figS (x : Str) : Str := if x.cps.toList.head? = some 45 then PySem.Txt.slice x (some 1) none else x
theorem figS_list (x : Str) : (figS x).cps.toList = figs x.cps.toList := by
  unfold figS figs
  split
  · exact sl_rest x
  · rfl
theorem figS_len (x : Str) : (figS x).length ≤ x.length := by
  unfold figS
  split
  · exact PySem.Txt.slice_le x _ _
  · exact Nat.le_refl _
theorem minus_list : ("-" : Str).cps.toList = [45] := by decide +kernel
theorem minus0_list : ("-0" : Str).cps.toList = [45, 48] := by decide +kernel
theorem first_minus (x : Str) : PySem.Txt.slice x none (some 1) = "-" ↔ x.cps.toList.head? = some 45 := by
  have e := sl_one x
  constructor
  · intro h
    rw [h, minus_list] at e
    cases hx : x.cps.toList with
    | nil => rw [hx] at e; cases e
    | cons c r => rw [hx] at e; injection e with e1; rw [List.head?_cons, ← e1]
  · intro h
    apply str_ext
    rw [e, minus_list]
    cases hx : x.cps.toList with
    | nil => rw [hx] at h; cases h
    | cons c r => rw [hx] at h; injection h with h1; rw [h1]; rfl
theorem eq_minus0 (x : Str) : x = "-0" ↔ x.cps.toList = [45, 48] := ⟨fun h => by rw [h, minus0_list], fun h => str_ext (by rw [h, minus0_list])⟩
theorem figB_all {cs : List Nat} (h : figB cs = true) : 1 ≤ cs.length ∧ cs.length ≤ 40 ∧ AllDigits cs ∧ (cs.head? = some 48 → cs.length = 1) := by
  simp only [figB, Bool.and_eq_true, decide_eq_true_eq, Bool.not_eq_true', Bool.and_eq_false_iff, decide_eq_false_iff_not, List.all_eq_true] at h
  obtain ⟨⟨⟨h1, h2⟩, h3⟩, h4⟩ := h
  exact ⟨h1, h2, fun c hc => isDig_iff.mp (h4 c hc), fun e => by rcases h3 with h3 | h3; exact absurd e h3; omega⟩
theorem numF_some {cs : List Nat} {n : Int} (h : numF cs = some n) : figB (figs cs) = true ∧ cs ≠ [45, 48] ∧ n = if cs.head? = some 45 then -((digitsVal (figs cs) : Nat) : Int) else ((digitsVal (figs cs) : Nat) : Int) := by
  unfold numF at h
  split at h
  · rename_i hc
    simp only [Bool.and_eq_true, Bool.not_eq_true', decide_eq_false_iff_not] at hc
    cases h
    exact ⟨hc.2, hc.1, rfl⟩
  · cases h
theorem num_int {x : Str} {n : Int} (h : numF x.cps.toList = some n) : x.length ≤ 41 ∧ PySem.intText? x = some n := by
  obtain ⟨h1, h2, h3⟩ := numF_some h
  obtain ⟨l1, l2, hd, _⟩ := figB_all h1
  have hl := str_len x
  unfold figs at l1 l2 hd h3
  split at l1
  · rename_i hc
    rw [if_pos hc] at l2 hd h3
    cases hx : x.cps.toList with
    | nil => rw [hx] at hc; cases hc
    | cons c r =>
      rw [hx] at hc l1 l2 hd h3 hl
      injection hc with hc
      subst hc
      have hlen : x.length ≤ 41 := by
        rw [List.length_drop] at l2
        omega
      refine ⟨hlen, ?_⟩
      rw [PySem.intText_neg hx (show AllDigits r from hd) (fun e => by rw [e] at l1; exact absurd l1 (by decide)) (by omega), h3]
      rfl
  · rename_i hc
    rw [if_neg hc] at l2 hd h3
    refine ⟨by omega, ?_⟩
    rw [PySem.intText_digits hd (fun e => by rw [e] at l1; exact absurd l1 (by decide)) (by omega), h3, if_neg hc]
theorem dv_lt {cs : List Nat} (h : AllDigits cs) : digitsVal cs < 10 ^ cs.length := by
  have key : ∀ (cs : List Nat) (a : Nat), AllDigits cs → cs.foldl (fun acc c => acc * 10 + (c - 48)) a < (a + 1) * 10 ^ cs.length := by
    intro cs
    induction cs with
    | nil => intro a _; simp
    | cons c r ih =>
      intro a h
      have hc := h c (by simp)
      have h1 := ih (a * 10 + (c - 48)) fun d hd => h d (by simp [hd])
      rw [List.foldl_cons, List.length_cons, Nat.pow_succ]
      refine Nat.lt_of_lt_of_le h1 ?_
      have e : (a + 1) * (10 ^ r.length * 10) = (a * 10 + 10) * 10 ^ r.length := by
        rw [Nat.mul_comm (10 ^ r.length) 10, ← Nat.mul_assoc, Nat.add_mul a 1 10, Nat.one_mul]
      rw [e]
      exact Nat.mul_le_mul_right _ (by omega)
  have := key cs 0 h
  simpa [digitsVal] using this
theorem num_small {cs : List Nat} {n : Int} (h : numF cs = some n) : n.natAbs < 10 ^ 40 := by
  obtain ⟨h1, h2, h3⟩ := numF_some h
  obtain ⟨l1, l2, hd, hz⟩ := figB_all h1
  have h4 := dv_lt hd
  have h5 : (10 : Nat) ^ (figs cs).length ≤ 10 ^ 40 := Nat.pow_le_pow_right (by decide) l2
  have h6 : n.natAbs = digitsVal (figs cs) := by
    rw [h3]; split <;> omega
  omega
theorem logOk {i : Int} (h : i.natAbs < 10 ^ 50) : i.natAbs.log2 < 1920 := by
  by_cases h0 : i.natAbs = 0
  · rw [h0]; decide
  · exact (Nat.log2_lt h0).mpr (Nat.lt_of_lt_of_le h (by decide +kernel))
theorem txt_len {n : Int} (h : n.natAbs < 10 ^ 50) : (Str.ofString (toString n)).length ≤ 51 := by
  by_cases h0 : 0 ≤ n
  · have := toString_length_le (k := 50) h0 (by decide) (by omega)
    omega
  · rw [len_text_neg (by omega)]
    have := toString_length_le (k := 50) (v := 0 - n) (by omega) (by decide) (by omega)
    omega
noncomputable def valF (x : Str) : Option (Int × Int) :=
  match numF (PySem.Txt.partition x "/").1.cps.toList with
  | none => none
  | some t => if (PySem.Txt.partition x "/").2.1 = Str.empty then some (t, 1) else
    match numF (PySem.Txt.partition x "/").2.2.cps.toList with
    | none => none
    | some b => if b < 2 ∨ Int.gcd t b ≠ 1 then none else some (t, b)
noncomputable def optP : Option (Int × Int) → PyData
  | none => .none
  | some (t, b) => .tuple [.int t, .int b]
theorem slash_len : (Str.ofString "/").length = 1 := by decide +kernel
theorem slash_ne : (Str.ofString "/") ≠ Str.empty := by decide +kernel
theorem part_empty (x : Str) : (PySem.Txt.partition x "/").2.1 = Str.empty ↔ PySem.Txt.contains x "/" = false := by
  constructor
  · intro h
    cases hc : PySem.Txt.contains x "/" with
    | false => rfl
    | true => exact absurd ((part_in hc).symm.trans h) slash_ne
  · intro h
    rw [part_not h]
theorem part_len (x y : Str) : (PySem.Txt.partition x y).1.length ≤ x.length ∧ (PySem.Txt.partition x y).2.1.length ≤ x.length ∧ (PySem.Txt.partition x y).2.2.length ≤ x.length := fact_partition x y
theorem valF_whole {x : Str} (hc : PySem.Txt.contains x "/" = false) : valF x = (numF x.cps.toList).map (fun t => (t, 1)) := by
  unfold valF
  rw [part_not hc]
  cases numF x.cps.toList with
  | none => rfl
  | some t => simp
theorem valF_frac {x : Str} (hc : PySem.Txt.contains x "/" = true) {t b : Int} (h1 : numF (PySem.Txt.partition x "/").1.cps.toList = some t) (h2 : numF (PySem.Txt.partition x "/").2.2.cps.toList = some b) :
    valF x = if b < 2 ∨ Int.gcd t b ≠ 1 then none else some (t, b) := by
  unfold valF
  rw [h1, h2]
  simp only
  rw [if_neg fun z => by rw [(part_empty x).mp z] at hc; cases hc]
theorem valF_no1 {x : Str} (h1 : numF (PySem.Txt.partition x "/").1.cps.toList = none) : valF x = none := by
  unfold valF
  rw [h1]
theorem valF_no2 {x : Str} (hc : PySem.Txt.contains x "/" = true) (h2 : numF (PySem.Txt.partition x "/").2.2.cps.toList = none) : valF x = none := by
  unfold valF
  split
  · rfl
  · rw [h2]
    simp only
    rw [if_neg fun z => by rw [(part_empty x).mp z] at hc; cases hc]
theorem low_iff {t b : Int} (hb : 2 ≤ b) : ((Rat.divInt t b).num = t ∧ ((Rat.divInt t b).den : Int) = b) ↔ Int.gcd t b = 1 := by
  obtain ⟨e1, e2⟩ := Fm.fr_pos (t := t) (b := b) (by omega)
  rw [← e1, ← e2]
  constructor
  · rintro ⟨_, h⟩
    have hd : ((Int.gcd t b : Nat) : Int) ∣ b := Int.gcd_dvd_right ..
    have hm := Int.mul_ediv_cancel' hd
    rw [h] at hm
    have h1 : ((Int.gcd t b : Nat) : Int) * b = 1 * b := by rw [hm, Int.one_mul]
    have h2 := Int.eq_of_mul_eq_mul_right (by omega) h1
    omega
  · intro h
    rw [h]
    simp
theorem sign0 {c0 : Nat} : ((⟨#[c0]⟩ : Str) = "0") ↔ c0 = 48 := by
  constructor
  · intro h
    have h2 := congrArg (fun z : Str => z.cps.toList) h
    have h3 : ("0" : Str).cps.toList = [48] := by decide +kernel
    rw [h3] at h2
    injection h2
  · rintro rfl
    apply str_ext
    decide +kernel
theorem figS_eq (x : Str) : x = figS x ↔ ¬ x.cps.toList.head? = some 45 := by
  constructor
  · intro h hc
    have e := figS_list x
    rw [← h] at e
    unfold figs at e
    rw [if_pos hc] at e
    have e2 := congrArg List.length e
    rw [List.length_drop] at e2
    cases hx : x.cps.toList with
    | nil => rw [hx] at hc; cases hc
    | cons c r => rw [hx] at e2; simp at e2
  · intro h
    unfold figS
    rw [if_neg h]
theorem take_dv {cs : List Nat} {i c : Nat} (h : cs[i]? = some c) : digitsVal (cs.take (i + 1)) = digitsVal (cs.take i) * 10 + (c - 48) := by
  rw [List.take_add_one, h, Option.toList_some, PySem.NumText.digitsVal_snoc]
theorem take_all {cs : List Nat} {i c : Nat} (h : cs[i]? = some c) (ha : (cs.take i).all isDig = true) (hc : isDig c = true) : (cs.take (i + 1)).all isDig = true := by
  rw [List.take_add_one, h, Option.toList_some, List.all_append, ha]
  simp [hc]
theorem empty_eq : Str.ofString "" = Str.empty := by decide +kernel
theorem atI_some {α : Type} {xs : List α} {i : Int} (h0 : 0 ≤ i) (h1 : i < (xs.length : Int)) : ∃ x, x ∈ xs ∧ atI xs i = some x := by
  obtain ⟨n, rfl⟩ : ∃ n : Nat, i = (n : Int) := ⟨i.toNat, by omega⟩
  have hn : n < xs.length := by omega
  exact ⟨xs[n], List.getElem_mem hn, atI_nat (List.getElem?_eq_getElem hn)⟩
section
variable {P : Program} {w : World} {K : PySem.W.Frag} {mg : Str → Option Value} {base : Heap} {A : Adr}
noncomputable def wCheck (C : Addr) : DW := fun ds Q X => ∃ d, ds = [d] ∧ ((∃ x, d = .str x) → Q (.dat .none)) ∧ ((∀ x, d ≠ .str x) → X C)
theorem ok_check_text (T : Txt K mg A) : FnOk P w K mg base (CXE P w) 1 A.a_check_text A.d_check_text ["text"] (spW K (wCheck A.x_NoText)) := by
  refine okW T.F_check_text sc_check_text (fun ds Q E h => ?_) (fun cdv Ar outer s H E hr => ?_)
  · obtain ⟨_, rfl, _⟩ := h; rfl
  refine ⟨_, (pss_one (ps_if (pt_not (pt_val (pe_callB (isiDK (K := K) rfl) rfl T.n_isinstance bt_isinstance (pa_cons (pv 0) (pa_cons (pe_bltn rfl T.n_str bt_str (show RelV (.ty "str") (.type "str") from rfl)) pa_nil))))) (pss_one (ps_raise T.x_NoText hr.hd pass_own rfl (pa_cons pe_str pa_nil))) pss_nil)), _, (sv_if (tv_not (tv_b (bv_ev (ev_isi (by decide) (bv_var 0))))) (sv_raise (ae_cons ev_str ae_nil) (by decide)) sv_next), ?_⟩
  rintro ds Q X ⟨d, rfl, k1, k2⟩
  cases d with
  | str x =>
    walk_at "d"
    exact k1 ⟨x, rfl⟩
  | _ =>
    walk_at "d"
    exact k2 (fun x e => nomatch e)
noncomputable def wFigs : DW := fun ds Q _ => ∃ x : Str, ds = [.str x] ∧ x.length ≤ 100000 ∧ Q (.dat (.bool (figB x.cps.toList)))
theorem ok_is_figures (T : Txt K mg A) : FnOk P w K mg base (CXE P w) 1 A.a_is_figures A.d_is_figures ["text"] (spW K wFigs) := by
  refine okW T.F_is_figures sc_is_figures (fun ds Q E h => ?_) (fun cdv Ar outer s H E hr => ?_)
  · obtain ⟨_, rfl, _⟩ := h; rfl
  refine ⟨_, (pss_cons (ps_if (PW.pt (pw_or (pt_cmpR op_eq (pe_callB call_len_str rfl T.n_len PySem.boot_len (pa_cons (pv 0) pa_nil)) pe_int (nomark _)) (pw_or1 (pt_cmpR op_gt (pe_callB call_len_str rfl T.n_len PySem.boot_len (pa_cons (pv 0) pa_nil)) (pe_glob rfl T.c_MOST_FIGURES.choose_spec (show RelV (.int 40) _ from ⟨_, rfl⟩)) (nomark _))))) (pss_one (ps_ret pe_bl)) pss_nil)
      (pss_cons (ps_if (PW.pt (pw_and (pt_cmpR op_eq (pe_ix ix_str (pv 0) pe_int (fun _ _ => rfl)) pe_str (nomark _)) (pw_and1 (pt_cmpR op_gt (pe_callB call_len_str rfl T.n_len PySem.boot_len (pa_cons (pv 0) pa_nil)) pe_int (nomark _))))) (pss_one (ps_ret pe_bl)) pss_nil)
      (pss_one (ps_ret (pe_callB (allK (K := K) rfl rfl) rfl T.n_all Dl.boot_all (pa_cons (pe_lc (cap := [none]) (NC := ["sign"]) rfl ⟨rfl, rfl, by decide +kernel, by decide +kernel, trivial, (fun _ h => nomatch h), rfl⟩ (pi_str (pv 0)) (fun _ _ _ _ => (pg_name (i := 0) (show List.Nodup (["sign"] : List Str) by decide) rfl (Or.inl rfl))) (fun _ _ _ _ => pts_nil) (fun _ _ _ _ => (pe_cmpR op_in_str (pv 0) (pe_glob rfl T.c_FIGURES.choose_spec (show RelV (.str "0123456789") _ from ⟨_, rfl⟩)) rfl))) pa_nil)))))), _, (sv_seq (sv_if (tv_or (tv_test (bv_ev (ev_op ro_eq (bv_ev (ev_cb rb_lens (av_cons (bv_var 0) av_nil))) (bv_ev ev_int)))) (tv_test (bv_ev (ev_op ro_b0 (bv_ev (ev_cb rb_lens (av_cons (bv_var 0) av_nil))) (bv_ev ev_int))))) (sv_ret (bv_ev ev_bl)) sv_next)
      (sv_seq (sv_if (tv_and (tv_test (bv_ev (ev_op ro_eq (bv_ev (ev_op ro_ixs (bv_var 0) (bv_ev ev_int))) (bv_ev ev_str)))) (tv_test (bv_ev (ev_op ro_b0 (bv_ev (ev_cb rb_lens (av_cons (bv_var 0) av_nil))) (bv_ev ev_int))))) (sv_ret (bv_ev ev_bl)) sv_next)
      (sv_ret (bv_ev (ev_cb rb_all (av_cons (bv_ev (ev_ov (ov_lc (IvS.e (is_str (ev_var 0))) (gv_name 0) tv_yes (ev_op ro_inS (bv_var 0) (bv_ev ev_str)) (by decide) (by decide)))) av_nil)))))), ?_⟩
  rintro ds Q X ⟨x, rfl, hx, k⟩
  have hl := str_len x
  walk_at "s"
  refine ⟨hx, ite2 (fun c => ?_) (fun c => ?_)⟩
  · have e : figB x.cps.toList = false := by
      unfold figB
      rw [decide_eq_false (show ¬ 1 ≤ x.cps.toList.length by omega)]; rfl
    rw [e] at k
    exact k
  refine ⟨hx, ite2 (fun c2 => ?_) (fun c2 => ?_)⟩
  · have e : figB x.cps.toList = false := by
      unfold figB
      rw [decide_eq_false (show ¬ x.cps.toList.length ≤ 40 by omega)]
      simp
    rw [e] at k
    exact k
  obtain ⟨c0, r, hxr⟩ : ∃ c0 r, x.cps.toList = c0 :: r := by
    cases h : x.cps.toList with
    | nil => rw [h] at hl; simp at hl; omega
    | cons c0 r => exact ⟨c0, r, rfl⟩
  walk_at "s"
  refine ⟨hx, c0, ?_, ?_⟩
  · rw [hxr]; exact atI_nat (j := 0) rfl
  have ez : ((⟨#[c0]⟩ : Str) = "0") ↔ c0 = 48 := by
    constructor
    · intro h
      have h2 := congrArg (fun z : Str => z.cps.toList) h
      have h3 : ("0" : Str).cps.toList = [48] := by decide +kernel
      rw [h3] at h2
      injection h2
    · rintro rfl
      apply str_ext
      decide +kernel
  rw [hxr] at hl k
  have fin : ¬ (c0 = 48 ∧ 1 < x.length) → dLC (dAsS (dVar 0)) [none] (gvName 0) dYes (dOp oInS (dBVar 0) (dC (PyData.str (Str.ofString "0123456789")))) X
          [some (Sl.dat (PyData.str x))] (fun ds => ∃ ks, ds = List.map PyData.bool ks ∧ Q (Sl.dat (PyData.bool (ks.all id)))) := by
    intro hn
    refine lc_map sgD PyData.bool (fun c => [isDig c]) x.cps.toList (by rw [hxr]; omega) (fun Q h => by
      walk_at "d"
      exact h) (fun c hc N acc hN => ?_) ?_
    · unfold sgD
      walk_at "d"
      rw [in_fig]
      exact hN
    refine ⟨x.cps.toList.flatMap fun c => [isDig c], rfl, ?_⟩
    have e : figB (c0 :: r) = (x.cps.toList.flatMap fun c => [isDig c]).all id := by
      rw [hxr, flat_single, List.all_map]
      unfold figB
      rw [decide_eq_true (show 1 ≤ (c0 :: r).length by simp), decide_eq_true (show (c0 :: r).length ≤ 40 by omega)]
      have e2 : (decide ((c0 :: r).head? = some 48) && decide (1 < (c0 :: r).length)) = false := by
        rw [Bool.and_eq_false_iff]
        by_cases h : c0 = 48
        · right; exact decide_eq_false fun z => hn ⟨h, by omega⟩
        · left; exact decide_eq_false fun z => h (by injection z)
      rw [e2]
      rfl
    rw [e] at k
    exact k
  refine ite2 (fun c3 => ?_) (fun c3 => fin fun z => c3 (ez.mpr z.1))
  refine ⟨hx, ite2 (fun c4 => ?_) (fun c4 => fin fun z => c4 (by omega))⟩
  have e : figB (c0 :: r) = false := by
    unfold figB
    rw [decide_eq_true (show (c0 :: r).head? = some 48 by rw [ez.mp c3]; rfl), decide_eq_true (show 1 < (c0 :: r).length by omega)]
    simp
  rw [e] at k
  exact k
noncomputable def wWhole (C : Addr) : DW := fun ds Q X => ∃ x : Str, ds = [.str x] ∧ x.length ≤ 100000 ∧ (∀ n, numF x.cps.toList = some n → Q (.dat (.int n))) ∧ (numF x.cps.toList = none → X C)
theorem ok_read_whole (T : Txt K mg A) : FnOk P w K mg base (CXE P w) 2 A.a_read_whole A.d_read_whole ["text"] (spW K (wWhole A.x_NoText)) := by
  have G_is_figures := ok_is_figures (P := P) (w := w) (base := base) T
  refine okW T.F_read_whole sc_read_whole (fun ds Q E h => ?_) (fun cdv Ar outer s H E hr => ?_)
  · obtain ⟨_, rfl, _⟩ := h; rfl
  refine ⟨_, (pss_cons (ps_set (i := 1) sc_read_whole.nd rfl (Or.inl rfl) (pe_ifExp (pt_cmpR op_eq (pe_slice sl_str (pv 0) po_none (po_some pe_int)) pe_str (nomark _)) (pe_slice sl_str (pv 0) (po_some pe_int) po_none) (pv 0)))
      (pss_cons (ps_if (PW.pt (pw_or (pt_cmpR op_eq (pv 0) pe_str (nomark _)) (pw_or1 (pt_not (pt_val (pe_call G_is_figures (hr.mono (by decide)) rfl T.m_is_figures T.F_is_figures.kp T.b_is_figures .nil passE0 (pa_cons (pv 1) pa_nil))))))) (pss_one (ps_raise T.x_NoText hr.hd pass_own rfl (pa_cons pe_str pa_nil))) pss_nil)
      (pss_one (ps_ret (pe_callTy call_intS rfl T.n_int bt_int (pa_cons (pv 0) pa_nil)))))), _, (sv_cut (sv_asg (ev_if (tv_test (bv_ev (ev_op ro_eq (bv_ev (ev_slS (bv_var 0) op_no (op_part (bv_ev ev_int)))) (bv_ev ev_str)))) (ev_slS (bv_var 0) (op_part (bv_ev ev_int)) op_no) (ev_var 0)) (gv_name 1))
      (sv_seq (sv_if (tv_or (tv_test (bv_ev (ev_op ro_eq (bv_var 0) (bv_ev ev_str)))) (tv_not (tv_b (bv_ev (ev_call0 (av_cons (bv_var 1) av_nil)))))) (sv_raise (ae_cons ev_str ae_nil) (by decide)) sv_next)
      (sv_ret (bv_ev (ev_cb rb_intS (av_cons (bv_var 0) av_nil)))))), ?_⟩
  rintro ds Q X ⟨x, rfl, hx, k1, k2⟩
  refine cut_mk (fun δ => δ = [some (.dat (.str x)), some (.dat (.str (figS x)))]) ?_ ?_
  · walk_at "d"
    refine ⟨hx, ite2 (fun c => ⟨hx, ?_⟩) (fun c => ?_)⟩
    · unfold figS
      rw [if_pos ((first_minus x).mp c)]
    · unfold figS
      rw [if_neg fun z => c ((first_minus x).mpr z)]
  rintro δ rfl
  refine seq_mk ?_
  walk_at "d"
  have hfl := figS_len x
  refine ite2 (fun c => ?_) (fun c => ?_)
  · refine k2 ?_
    unfold numF
    rw [decide_eq_true ((eq_minus0 x).mp c)]
    rfl
  refine ⟨figS x, rfl, by omega, ?_⟩
  walk_at "d"
  rw [figS_list]
  refine ite2 (fun c2 => ?_) (fun c2 => ?_)
  · refine k2 ?_
    unfold numF
    rw [c2]
    simp
  have hs : ∃ n, numF x.cps.toList = some n := by
    unfold numF
    rw [if_pos]
    · exact ⟨_, rfl⟩
    · rw [decide_eq_false fun z => c ((eq_minus0 x).mpr z)]
      simpa using c2
  obtain ⟨n, hn⟩ := hs
  obtain ⟨hl, hi⟩ := num_int hn
  walk_at "d"
  exact ⟨by omega, n, hi, k1 n hn⟩
noncomputable def wRead (C : Addr) : DW := fun ds Q X => (∃ x : Str, ds = [.str x] ∧ x.length ≤ 100000 ∧ (∀ t b, valF x = some (t, b) → Q (.dat (.tuple [.int t, .int b]))) ∧ (valF x = none → X C)) ∨ (∃ d, ds = [d] ∧ (∀ x, d ≠ .str x) ∧ X C)
theorem ok_read_fraction (T : Txt K mg A) : FnOk P w K mg base (CXE P w) 3 A.a_read_fraction A.d_read_fraction ["text"] (spW K (wRead A.x_NoText)) := by
  have G_check_text := ok_check_text (P := P) (w := w) (base := base) T
  have G_read_whole := ok_read_whole (P := P) (w := w) (base := base) T
  have G_fraction := ok_fraction (P := P) (w := w) (base := base) T
  refine okW T.F_read_fraction sc_read_fraction (fun ds Q E h => ?_) (fun cdv Ar outer s H E hr => ?_)
  · rcases h with ⟨_, rfl, _⟩ | ⟨_, rfl, _⟩ <;> rfl
  refine ⟨_, (pss_cons (ps_expr (pe_call G_check_text (hr.mono (by decide)) rfl T.m_check_text T.F_check_text.kp T.b_check_text .nil pass_own (pa_cons (pv 0) pa_nil)))
      (pss_cons (ps_if (pt_cmpR op_notin_str pe_str (pv 0) rfl) (pss_one (ps_ret (pe_tup (pa_cons (pe_call G_read_whole (hr.mono (by decide)) rfl T.m_read_whole T.F_read_whole.kp T.b_read_whole .nil pass_own (pa_cons (pv 0) pa_nil)) (pa_cons pe_int pa_nil))))) pss_nil)
      (pss_cons (ps_set (i := 1) sc_read_fraction.nd rfl (Or.inl rfl) (pe_bm PySem.F.plainAttrs_str PySem.F.slot_str_partition PySem.F.type_str_partition mt_partition (pv 0) (pa_cons pe_str pa_nil)))
      (pss_cons (ps_set (i := 2) sc_read_fraction.nd rfl (Or.inl rfl) (pe_call G_read_whole (hr.mono (by decide)) rfl T.m_read_whole T.F_read_whole.kp T.b_read_whole .nil pass_own (pa_cons (pe_ix (ixtK (K := K) rfl) (pv 1) pe_int (fun _ _ => rfl)) pa_nil)))
      (pss_cons (ps_set (i := 3) sc_read_fraction.nd rfl (Or.inl rfl) (pe_call G_read_whole (hr.mono (by decide)) rfl T.m_read_whole T.F_read_whole.kp T.b_read_whole .nil pass_own (pa_cons (pe_ix (ixtK (K := K) rfl) (pv 1) pe_int (fun _ _ => rfl)) pa_nil)))
      (pss_cons (ps_if (PW.pt (pw_or (pt_cmpR op_lt (pv 3) pe_int (nomark _)) (pw_or1 (pt_cmpR (neK (K := K) rfl hr.units) (pe_call G_fraction (hr.mono (by decide)) rfl T.m_fraction T.F_fraction.kp T.b_fraction .nil passE0 (pa_cons (pv 2) (pa_cons (pv 3) pa_nil))) (pe_tup (pa_cons (pv 2) (pa_cons (pv 3) pa_nil))) (nomark _))))) (pss_one (ps_raise T.x_NoText hr.hd pass_own rfl (pa_cons pe_str pa_nil))) pss_nil)
      (pss_one (ps_ret (pe_tup (pa_cons (pv 2) (pa_cons (pv 3) pa_nil))))))))))), _, (sv_seq (sv_expr (bv_ev (ev_call (av_cons (bv_var 0) av_nil))))
      (sv_seq (sv_if (tv_test (bv_ev (ev_op ro_notInS (bv_ev ev_str) (bv_var 0)))) (sv_ret (bv_ev (ev_tup (ae_cons (ev_call (av_cons (bv_var 0) av_nil)) (ae_cons ev_int ae_nil)) (by decide)))) sv_next)
      (sv_seq (sv_asg (ev_partn (bv_var 0) (bv_ev ev_str)) (gv_name 1))
      (sv_seq (sv_asg (ev_call (av_cons (bv_ev (ev_ixk 0 (ev_var 1))) av_nil)) (gv_name 2))
      (sv_seq (sv_asg (ev_call (av_cons (bv_ev (ev_ixk 2 (ev_var 1))) av_nil)) (gv_name 3))
      (sv_seq (sv_if (tv_or (tv_test (bv_ev (ev_op ro_b0 (bv_var 3) (bv_ev ev_int)))) (tv_test (bv_ev (ev_op ro_neD (bv_ev (ev_call0 (av_cons (bv_var 2) (av_cons (bv_var 3) av_nil)))) (bv_ev (ev_tup (ae_cons (ev_var 2) (ae_cons (ev_var 3) ae_nil)) (by decide))))))) (sv_raise (ae_cons ev_str ae_nil) (by decide)) sv_next)
      (sv_ret (bv_ev (ev_tup (ae_cons (ev_var 2) (ae_cons (ev_var 3) ae_nil)) (by decide)))))))))), ?_⟩
  rintro ds Q X (⟨x, rfl, hx, k1, k2⟩ | ⟨d, rfl, hd, k⟩)
  · walk_at "s"
    refine ⟨.str x, rfl, fun _ => ?_, fun z => absurd rfl (z x)⟩
    walk_at "s"
    refine ite2 (fun c => ?_) (fun c => ?_)
    · have e := valF_whole c
      refine ⟨x, rfl, hx, fun n hn => ?_, fun hn => k2 (by rw [e, hn]; rfl)⟩
      walk_at "d"
      exact k1 n 1 (by rw [e, hn]; rfl)
    have hc : PySem.Txt.contains x "/" = true := by simpa using c
    obtain ⟨l1, _, l3⟩ := part_len x "/"
    walk_at "s"
    refine ⟨hx, by rw [slash_len]; rfl, ?_⟩
    walk_at "s"
    refine ⟨_, rfl, by omega, fun t ht => ?_, fun hn => k2 (valF_no1 hn)⟩
    walk_at "s"
    refine ⟨_, rfl, by omega, fun b hb => ?_, fun hn => k2 (valF_no2 hc hn)⟩
    have e := valF_frac hc ht hb
    have hbs := num_small hb
    walk_at "s"
    refine ite2 (fun c2 => k2 (by rw [e, if_pos (.inl c2)])) (fun c2 => ?_)
    walk_at "d"
    refine ⟨t, b, rfl, weeLe (n := 10 ^ 40) (by omega) (by decide +kernel), fun z => absurd z (by omega), fun _ => ?_⟩
    walk_at "d"
    refine ⟨Int × Int, eT2 eInt eInt (by decide) (by decide), ((Rat.divInt t b).num, ((Rat.divInt t b).den : Int)), (t, b), rfl, rfl, fun v hv => ?_⟩
    have hv2 : v = true ↔ Int.gcd t b = 1 := by
      rw [hv, Prod.mk.injEq, low_iff (by omega)]
    walk_at "d"
    cases v with
    | true =>
      rw [if_neg (by simp)]
      walk_at "d"
      exact k1 t b (by rw [e, if_neg (by rintro (z | z); omega; exact z (hv2.mp rfl))])
    | false =>
      rw [if_pos rfl]
      exact k2 (by rw [e, if_pos (.inr fun z => nomatch hv2.mpr z)])
  · walk_at "s"
    exact ⟨d, rfl, fun ⟨x, e⟩ => absurd e (hd x), fun _ => k⟩
end
open PySem.NumText (AllDigits digitsVal)
section
variable {P : Program} {w : World} {K : PySem.W.Frag} {mg : Str → Option Value} {base : Heap} {A : Adr}
noncomputable def wNumber : DW := fun ds Q _ => ∃ x : Str, ds = [.str x] ∧ x.length ≤ 100000 ∧ Q (.dat (optI (numF x.cps.toList)))
theorem ok_law_number (T : Txt K mg A) : FnOk P w K mg base (CXE P w) 1 A.a_law_number A.d_law_number ["word"] (spW K wNumber) := by
  refine okW T.F_law_number sc_law_number (fun ds Q E h => ?_) (fun cdv Ar outer s H E hr => ?_)
  · obtain ⟨_, rfl, _⟩ := h; rfl
  refine ⟨_, (pss_cons (ps_set (i := 1) sc_law_number.nd rfl (Or.inl rfl) (pv 0))
      (pss_cons (ps_if (pt_cmpR op_eq (pe_slice sl_str (pv 0) po_none (po_some pe_int)) pe_str (nomark _)) (pss_one (ps_set (i := 1) sc_law_number.nd rfl (Or.inl rfl) (pe_slice sl_str (pv 0) (po_some pe_int) po_none))) pss_nil)
      (pss_cons (ps_if (PW.pt (pw_or (pt_cmpR op_lt (pe_callB call_len_str rfl T.n_len PySem.boot_len (pa_cons (pv 1) pa_nil)) pe_int (nomark _)) (pw_or1 (pt_cmpR op_gt (pe_callB call_len_str rfl T.n_len PySem.boot_len (pa_cons (pv 1) pa_nil)) pe_int (nomark _))))) (pss_one (ps_ret pe_non)) pss_nil)
      (pss_cons (ps_set (i := 2) sc_law_number.nd rfl (Or.inl rfl) pe_int)
      (pss_cons (ps_for PassesOwn.leaving rfl (pi_str (pv 1)) (pg_name (i := 3) sc_law_number.nd rfl (Or.inl rfl))
        (pss_cons (ps_if (pt_cmpR op_lt (pe_bm PySem.F.plainAttrs_str PySem.F.slot_str_find PySem.F.type_str_find mt_find pe_str (pa_cons (pv 3) pa_nil)) pe_int (nomark _)) (pss_one (ps_ret pe_non)) pss_nil)
      (pss_one (ps_set (i := 2) sc_law_number.nd rfl (Or.inl rfl) (pe_op op_add (pe_op op_mulB pe_int (pv 2)) (pe_bm PySem.F.plainAttrs_str PySem.F.slot_str_find PySem.F.type_str_find mt_find pe_str (pa_cons (pv 3) pa_nil)))))))
      (pss_cons (ps_if (PW.pt (pw_and (pt_cmpR op_eq (pe_ix ix_str (pv 1) pe_int (fun _ _ => rfl)) pe_str (nomark _)) (pw_and1 (PW.pt (pw_or (pt_cmpR op_gt (pe_callB call_len_str rfl T.n_len PySem.boot_len (pa_cons (pv 1) pa_nil)) pe_int (nomark _)) (pw_or1 (pt_cmpR op_ne (pv 0) (pv 1) (nomark _)))))))) (pss_one (ps_ret pe_non)) pss_nil)
      (pss_cons (ps_if (pt_cmpR op_ne (pv 0) (pv 1) (nomark _)) (pss_one (ps_ret (pe_un un_neg (pv 2)))) pss_nil)
      (pss_one (ps_ret (pv 2)))))))))), _, (sv_seq (sv_asg (ev_var 0) (gv_name 1))
      (sv_cut (sv_if (tv_test (bv_ev (ev_op ro_eq (bv_ev (ev_slS (bv_var 0) op_no (op_part (bv_ev ev_int)))) (bv_ev ev_str)))) (sv_asg (ev_slS (bv_var 0) (op_part (bv_ev ev_int)) op_no) (gv_name 1)) sv_next)
      (sv_seq (sv_if (tv_or (tv_test (bv_ev (ev_op ro_b0 (bv_ev (ev_cb rb_lens (av_cons (bv_var 1) av_nil))) (bv_ev ev_int)))) (tv_test (bv_ev (ev_op ro_b0 (bv_ev (ev_cb rb_lens (av_cons (bv_var 1) av_nil))) (bv_ev ev_int))))) (sv_ret (bv_ev ev_non)) sv_next)
      (sv_seq (sv_asg ev_int (gv_name 2))
      (sv_seq (sv_for (is_str (ev_var 1)) (gv_name 3)
        (sv_seq (sv_if (tv_test (bv_ev (ev_op ro_b0 (bv_ev (ev_find (bv_ev ev_str) (bv_var 3))) (bv_ev ev_int)))) (sv_ret (bv_ev ev_non)) sv_next)
      (sv_asg (ev_op ro_i0 (bv_ev (ev_op ro_i (bv_ev ev_int) (bv_var 2))) (bv_ev (ev_find (bv_ev ev_str) (bv_var 3)))) (gv_name 2))))
      (sv_seq (sv_if (tv_and (tv_test (bv_ev (ev_op ro_eq (bv_ev (ev_op ro_ixs (bv_var 1) (bv_ev ev_int))) (bv_ev ev_str)))) (tv_or (tv_test (bv_ev (ev_op ro_b0 (bv_ev (ev_cb rb_lens (av_cons (bv_var 1) av_nil))) (bv_ev ev_int)))) (tv_test (bv_ev (ev_op ro_ne (bv_var 0) (bv_var 1)))))) (sv_ret (bv_ev ev_non)) sv_next)
      (sv_seq (sv_if (tv_test (bv_ev (ev_op ro_ne (bv_var 0) (bv_var 1)))) (sv_ret (bv_ev (ev_neg (bv_var 2)))) sv_next)
      (sv_retV 2)))))))), ?_⟩
  rintro ds Q X ⟨x, rfl, hx, k⟩
  walk_at "s"
  refine cut_mk (fun δ => δ = [some (.dat (.str x)), some (.dat (.str (figS x))), none, none]) ?_ ?_
  · walk_at "d"
    refine ⟨hx, ite2 (fun c => ⟨hx, ?_⟩) (fun c => ?_)⟩
    · unfold figS
      rw [if_pos ((first_minus x).mp c)]
    · unfold figS
      rw [if_neg fun z => c ((first_minus x).mpr z)]
  rintro δ rfl
  have hfl := figS_len x
  have hl := str_len (figS x)
  have hlist := figS_list x
  obtain ⟨y, hy⟩ : ∃ y, figS x = y := ⟨_, rfl⟩
  rw [hy] at hfl hl hlist
  rw [hy]
  have no : figB y.cps.toList = false → numF x.cps.toList = none := fun h => by
    unfold numF
    rw [← hlist, h]
    simp
  walk_at "s"
  refine ⟨by omega, ite2 (fun c => ?_) (fun c => ?_)⟩
  · rw [no (by unfold figB; rw [decide_eq_false (show ¬ 1 ≤ y.cps.toList.length by omega)]; rfl)] at k
    exact k
  refine ⟨by omega, ite2 (fun c2 => ?_) (fun c2 => ?_)⟩
  · rw [no (by unfold figB; rw [decide_eq_false (show ¬ y.cps.toList.length ≤ 40 by omega)]; simp)] at k
    exact k
  walk_at "s"
  refine seq_mk (for_map sgD y.cps.toList (fun Q h => by
      walk_at "d"
      exact h) (fun i δ => ∃ s3 : Option Sl, δ = [some (.dat (.str x)), some (.dat (.str y)), some (.dat (.int ((digitsVal (y.cps.toList.take i) : Nat) : Int))), s3] ∧ (y.cps.toList.take i).all isDig = true) ⟨none, rfl, rfl⟩ ?_ ?_)
  · rintro i c δ hc ⟨s3, rfl, hall⟩
    unfold sgD
    walk_at "s"
    rw [find_fig]
    cases hd : isDig c with
    | false =>
      refine ite2 (fun c3 => ?_) (fun c3 => absurd (by decide : (-1 : Int) < 0) c3)
      have e : y.cps.toList.all isDig = false := by
        rw [Bool.eq_false_iff]
        intro z
        have := List.all_eq_true.mp z c (List.mem_of_getElem? hc)
        rw [hd] at this
        cases this
      rw [no (by unfold figB; rw [e]; simp)] at k
      exact k
    | true =>
      have hd2 := isDig_iff.mp hd
      refine ite2 (fun c3 => absurd c3 (by rw [if_pos rfl]; omega)) (fun c3 => ?_)
      walk_at "d"
      have hb : digitsVal (y.cps.toList.take i) < 10 ^ 40 := by
        have h1 : AllDigits (y.cps.toList.take i) := fun d hdd => isDig_iff.mp (List.all_eq_true.mp hall d hdd)
        refine Nat.lt_of_lt_of_le (dv_lt h1) (Nat.pow_le_pow_right (by decide) ?_)
        rw [List.length_take]
        omega
      refine ⟨mulOk (wee (by decide +kernel)) (weeLe (n := 10 ^ 40) (by omega) (by decide +kernel)), some (.dat (sgD c)), ?_, take_all hc hall hd⟩
      rw [take_dv hc]
      have e : (10 : Int) * ((digitsVal (y.cps.toList.take i) : Nat) : Int) + ((c : Int) - 48) = ((digitsVal (y.cps.toList.take i) * 10 + (c - 48) : Nat) : Int) := by omega
      rw [e]
      rfl
  · rintro δ ⟨s3, rfl, hall⟩
    rw [List.take_length] at hall ⊢
    obtain ⟨c0, r, hyr⟩ : ∃ c0 r, y.cps.toList = c0 :: r := by
      cases h : y.cps.toList with
      | nil => rw [h] at hl; simp at hl; omega
      | cons c0 r => exact ⟨c0, r, rfl⟩
    obtain ⟨V, hV⟩ : ∃ V, digitsVal y.cps.toList = V := ⟨_, rfl⟩
    have hxy : x = y ↔ ¬ x.cps.toList.head? = some 45 := by rw [← hy]; exact figS_eq x
    have some_ : figB y.cps.toList = true → x.cps.toList ≠ [45, 48] → numF x.cps.toList = some (if x = y then (V : Int) else -(V : Int)) := fun h1 h2 => by
      unfold numF
      rw [if_pos (by rw [← hlist, h1, decide_eq_false h2]; rfl), ← hlist, hV]
      by_cases hh : x.cps.toList.head? = some 45
      · rw [if_pos hh, if_neg fun z => hxy.mp z hh]
      · rw [if_neg hh, if_pos (hxy.mpr hh)]
    rw [hV]
    have fin : figB y.cps.toList = true → x.cps.toList ≠ [45, 48] → dSeq (dIfS (dAsB (dOp oNe (dBVar 0) (dBVar 1))) (dRet (dNeg (dBVar 2))) dNext) (dRetV 2)
                  { nx := fun x => Q (Sl.dat PyData.none), rt := Q, ex := X }
                  [some (Sl.dat (PyData.str x)), some (Sl.dat (PyData.str y)), some (Sl.dat (PyData.int (V : Int))), s3] := fun h1 h2 => by
      rw [some_ h1 h2] at k
      walk_at "s"
      refine ite2 (fun c5 => ?_) (fun c5 => ?_)
      · rw [if_neg c5] at k
        exact k
      · rw [if_pos (Decidable.not_not.mp c5)] at k
        walk_at "d"
        exact k
    walk_at "s"
    refine ⟨by omega, c0, by rw [hyr]; exact atI_nat (j := 0) rfl, ?_⟩
    have fb : ¬ (c0 = 48 ∧ 1 < y.length) → figB y.cps.toList = true := fun h => by
      unfold figB
      rw [hall, decide_eq_true (show 1 ≤ y.cps.toList.length by omega), decide_eq_true (show y.cps.toList.length ≤ 40 by omega)]
      have e2 : (decide (y.cps.toList.head? = some 48) && decide (1 < y.cps.toList.length)) = false := by
        rw [Bool.and_eq_false_iff]
        by_cases h0 : c0 = 48
        · right; exact decide_eq_false fun z => h ⟨h0, by omega⟩
        · left; exact decide_eq_false fun z => h0 (by rw [hyr] at z; injection z)
      rw [e2]
      rfl
    have ne0 : c0 ≠ 48 → x.cps.toList ≠ [45, 48] := fun h z => by
      rw [z] at hlist
      rw [hyr] at hlist
      have : c0 :: r = [48] := hlist
      injection this with this
      exact h this
    refine ite2 (fun c3 => ?_) (fun c3 => fin (fb fun z => c3 (sign0.mpr z.1)) (ne0 fun z => c3 (sign0.mpr z)))
    have c48 := sign0.mp c3
    refine ⟨by omega, ite2 (fun c4 => ?_) (fun c4 => ?_)⟩
    · rw [no (by unfold figB; rw [decide_eq_true (show y.cps.toList.head? = some 48 by rw [hyr, c48]; rfl), decide_eq_true (show 1 < y.cps.toList.length by omega)]; simp)] at k
      exact k
    · refine ite2 (fun c5 => ?_) (fun c5 => fin (fb fun z => c4 (by omega)) fun z => ?_)
      · have e1 : x.cps.toList.head? = some 45 := Decidable.not_not.mp fun z => c5 (hxy.mpr z)
        have e2 : x.cps.toList = [45, 48] := by
          have e3 : y.cps.toList = [48] := by
            rw [hyr, c48]
            have : r = [] := List.length_eq_zero_iff.mp (by rw [hyr] at hl; simp at hl; omega)
            rw [this]
          rw [e3] at hlist
          unfold figs at hlist
          rw [if_pos e1] at hlist
          cases hx2 : x.cps.toList with
          | nil => rw [hx2] at e1; cases e1
          | cons a b =>
            rw [hx2] at e1 hlist
            injection e1 with e1
            have : [48] = b := hlist
            rw [e1, ← this]
        have e3 : numF x.cps.toList = none := by
          unfold numF
          rw [decide_eq_true e2]
          rfl
        rw [e3] at k
        exact k
      · have e1 := hxy.mp (Decidable.not_not.mp c5)
        rw [z] at e1
        exact e1 rfl
noncomputable def wDiv : DW := fun ds Q _ => ∃ a b : Int, ds = [.int a, .int b] ∧ 0 ≤ b ∧ Q (.dat (.int ((Int.gcd a b : Nat) : Int)))
theorem ok_law_divisor (T : Txt K mg A) : FnOk P w K mg base (CXE P w) 1 A.a_law_divisor A.d_law_divisor ["one", "other"] (spW K wDiv) := by
  refine okW T.F_law_divisor sc_law_divisor (fun ds Q E h => ?_) (fun cdv Ar outer s H E hr => ?_)
  · obtain ⟨a, b, rfl, _⟩ := h; rfl
  refine ⟨_, (pss_cons (ps_set (i := 0) sc_law_divisor.nd rfl (Or.inl rfl) (pe_callB call_abs rfl T.n_abs bt_abs (pa_cons (pv 0) pa_nil)))
      (pss_cons (ps_while PassesOwn.leaving (pt_cmpR op_gt (pv 1) pe_int (nomark _)) (pss_one (ps_par (i := 0) (j := 1) rfl sc_law_divisor.nd rfl rfl (by decide) rfl rfl (pa_cons (pv 1) (pa_cons (pe_op op_mod (pv 0) (pv 1)) pa_nil)) rfl)))
      (pss_one (ps_ret (pv 0))))), _, (sv_seq (sv_asg (ev_cb rb_abs (av_cons (bv_var 0) av_nil)) (gv_name 0))
      (sv_seq (sv_while (tv_test (bv_ev (ev_op ro_b0 (bv_var 1) (bv_ev ev_int)))) (sv_par 0 1 (ae_cons (ev_var 1) (ae_cons (ev_op ro_i (bv_var 0) (bv_var 1)) ae_nil))))
      (sv_retV 0))), ?_⟩
  rintro ds Q X ⟨a, b, rfl, hb, k⟩
  walk_at "s"
  refine seq_mk ?_
  refine ⟨fun m δ => ∃ x y : Int, δ = [some (.dat (.int x)), some (.dat (.int y))] ∧ m = y.toNat ∧ 0 ≤ x ∧ 0 ≤ y ∧ Int.gcd x y = Int.gcd a b, ⟨_, if a < 0 then -a else a, b, rfl, rfl, by split <;> omega, hb, by rw [Fm.abs_if]; simp [Int.gcd]⟩, ?_⟩
  rintro m δ ⟨x, y, rfl, rfl, hx, hy, hg⟩
  walk_at "d"
  refine ite2 (fun c => ?_) (fun c => ?_)
  · have hy0 : y ≠ 0 := by omega
    have hp : 0 < y := by omega
    refine ⟨hp, _, ?_, y, x % y, rfl, rfl, by omega, Int.emod_nonneg _ hy0, ?_⟩
    · have := Int.emod_lt_of_pos x hp
      have := Int.emod_nonneg x hy0
      omega
    · rw [Fm.gcd_step x y hp, hg]
  · have hy0 : y = 0 := by omega
    subst hy0
    have e : x = ((Int.gcd a b : Nat) : Int) := by
      rw [← hg, Int.gcd_zero_right]
      omega
    walk_at "d"
    rw [e]
    exact k
noncomputable def wValue : DW := fun ds Q _ => (∃ x : Str, ds = [.str x] ∧ x.length ≤ 100000 ∧ Q (.dat (optP (valF x)))) ∨ (∃ d, ds = [d] ∧ (∀ x, d ≠ .str x) ∧ Q (.dat .none))
theorem ok_law_value (T : Txt K mg A) : FnOk P w K mg base (CXE P w) 2 A.a_law_value A.d_law_value ["word"] (spW K wValue) := by
  have G_law_number := ok_law_number (P := P) (w := w) (base := base) T
  have G_law_divisor := ok_law_divisor (P := P) (w := w) (base := base) T
  refine okW T.F_law_value sc_law_value (fun ds Q E h => ?_) (fun cdv Ar outer s H E hr => ?_)
  · rcases h with ⟨_, rfl, _⟩ | ⟨_, rfl, _⟩ <;> rfl
  refine ⟨_, (pss_cons (ps_if (pt_not (pt_val (pe_callB (isiDK (K := K) rfl) rfl T.n_isinstance bt_isinstance (pa_cons (pv 0) (pa_cons (pe_bltn rfl T.n_str bt_str (show RelV (.ty "str") (.type "str") from rfl)) pa_nil))))) (pss_one (ps_ret pe_non)) pss_nil)
      (pss_cons (ps_asg (pe_bm PySem.F.plainAttrs_str PySem.F.slot_str_partition PySem.F.type_str_partition mt_partition (pv 0) (pa_cons pe_str pa_nil)) (pgtK (K := K) (n := 3) rfl rfl (pgs_cons (pg_name (i := 1) sc_law_value.nd rfl (Or.inl rfl)) (pgs_cons (pg_name (i := 2) sc_law_value.nd rfl (Or.inl rfl)) (pgs_cons (pg_name (i := 3) sc_law_value.nd rfl (Or.inl rfl)) pgs_nil)))))
      (pss_cons (ps_set (i := 4) sc_law_value.nd rfl (Or.inl rfl) (pe_call G_law_number (hr.mono (by decide)) rfl T.m_law_number T.F_law_number.kp T.b_law_number .nil passE0 (pa_cons (pv 1) pa_nil)))
      (pss_cons (ps_if (PW.pt (pw_or (pt_cmpR op_eq (pv 2) pe_str (nomark _)) (pw_or1 (pt_cmpR op_isN (pv 4) pe_non (nomark _))))) (pss_cons (ps_if (pt_cmpR op_isN (pv 4) pe_non (nomark _)) (pss_one (ps_ret pe_non)) pss_nil)
      (pss_one (ps_ret (pe_tup (pa_cons (pv 4) (pa_cons pe_int pa_nil)))))) pss_nil)
      (pss_cons (ps_set (i := 5) sc_law_value.nd rfl (Or.inl rfl) (pe_call G_law_number (hr.mono (by decide)) rfl T.m_law_number T.F_law_number.kp T.b_law_number .nil passE0 (pa_cons (pv 3) pa_nil)))
      (pss_cons (ps_if (PW.pt (pw_or (pt_cmpR op_isN (pv 5) pe_non (nomark _)) (pw_or (pt_cmpR op_lt (pv 5) pe_int (nomark _)) (pw_or1 (pt_cmpR op_ne (pe_call G_law_divisor (hr.mono (by decide)) rfl T.m_law_divisor T.F_law_divisor.kp T.b_law_divisor .nil passE0 (pa_cons (pv 4) (pa_cons (pv 5) pa_nil))) pe_int (nomark _)))))) (pss_one (ps_ret pe_non)) pss_nil)
      (pss_one (ps_ret (pe_tup (pa_cons (pv 4) (pa_cons (pv 5) pa_nil))))))))))), _, (sv_seq (sv_if (tv_not (tv_b (bv_ev (ev_isi (by decide) (bv_var 0))))) (sv_ret (bv_ev ev_non)) sv_next)
      (sv_seq (sv_asg (ev_partn (bv_var 0) (bv_ev ev_str)) (gv_tup (gs_cons (gv_name 1) (gs_cons (gv_name 2) (gs_cons (gv_name 3) gs_nil)))))
      (sv_seq (sv_asg (ev_call0 (av_cons (bv_var 1) av_nil)) (gv_name 4))
      (sv_seq (sv_if (tv_or (tv_test (bv_ev (ev_op ro_eq (bv_var 2) (bv_ev ev_str)))) (tv_test (bv_ev (ev_op ro_isN (bv_var 4) (bv_ev ev_non))))) (sv_seq (sv_if (tv_test (bv_ev (ev_op ro_isN (bv_var 4) (bv_ev ev_non)))) (sv_ret (bv_ev ev_non)) sv_next)
      (sv_ret (bv_ev (ev_tup (ae_cons (ev_var 4) (ae_cons ev_int ae_nil)) (by decide))))) sv_next)
      (sv_seq (sv_asg (ev_call0 (av_cons (bv_var 3) av_nil)) (gv_name 5))
      (sv_seq (sv_if (tv_or (tv_test (bv_ev (ev_op ro_isN (bv_var 5) (bv_ev ev_non)))) (tv_or (tv_test (bv_ev (ev_op ro_b0 (bv_var 5) (bv_ev ev_int)))) (tv_test (bv_ev (ev_op ro_ne (bv_ev (ev_call0 (av_cons (bv_var 4) (av_cons (bv_var 5) av_nil)))) (bv_ev ev_int)))))) (sv_ret (bv_ev ev_non)) sv_next)
      (sv_ret (bv_ev (ev_tup (ae_cons (ev_var 4) (ae_cons (ev_var 5) ae_nil)) (by decide)))))))))), ?_⟩
  rintro ds Q X (⟨x, rfl, hx, k⟩ | ⟨d, rfl, hd, k⟩)
  · walk_at "s"
    rw [if_neg (by decide)]
    obtain ⟨l1, _, l3⟩ := part_len x "/"
    walk_at "s"
    refine ⟨hx, by rw [slash_len]; rfl, ?_⟩
    walk_at "s"
    refine ⟨_, rfl, by omega, ?_⟩
    obtain ⟨p1, h1⟩ : ∃ p, numF (PySem.Txt.partition x "/").1.cps.toList = p := ⟨_, rfl⟩
    rw [h1]
    cases p1 with
    | none =>
      rw [valF_no1 h1] at k
      simp only [optI]
      walk_at "s"
      refine ite2 (fun c => ?_) (fun c => ?_)
      · walk_at "s"
        exact k
      · walk_at "s"
        exact k
    | some t =>
      simp only [optI]
      walk_at "s"
      rw [empty_eq]
      refine ite2 (fun c => ?_) (fun c => ?_)
      · have hc := (part_empty x).mp c
        rw [valF_whole hc] at k
        rw [part_not hc] at h1
        rw [h1] at k
        walk_at "s"
        walk_at "d"
        exact k
      have hc : PySem.Txt.contains x "/" = true := by
        cases h : PySem.Txt.contains x "/" with
        | true => rfl
        | false => exact absurd ((part_empty x).mpr h) c
      walk_at "s"
      refine ⟨_, rfl, by omega, ?_⟩
      obtain ⟨p2, h2⟩ : ∃ p, numF (PySem.Txt.partition x "/").2.2.cps.toList = p := ⟨_, rfl⟩
      rw [h2]
      cases p2 with
      | none =>
        rw [valF_no2 hc h2] at k
        simp only [optI]
        walk_at "s"
        exact k
      | some b =>
        have e := valF_frac hc h1 h2
        simp only [optI]
        walk_at "s"
        refine ite2 (fun c2 => ?_) (fun c2 => ?_)
        · rw [e, if_pos (.inl c2)] at k
          exact k
        refine ⟨t, b, rfl, by omega, ?_⟩
        walk_at "d"
        refine ite2 (fun c3 => ?_) (fun c3 => ?_)
        · rw [e, if_pos (.inr (by omega))] at k
          exact k
        · rw [e, if_neg (by rintro (z | z) <;> omega)] at k
          walk_at "d"
          exact k
  · cases d with
    | str x => exact absurd rfl (hd x)
    | _ =>
      walk_at "s"
      rw [if_pos (by rfl)]
      exact k
noncomputable def wSign : DW := fun ds Q _ => ∃ c : Int, ds = [.int c] ∧ ∀ g : Nat, Q (.dat (.str ⟨#[g]⟩))
theorem ok_law_sign (T : Txt K mg A) : FnOk P w K mg base (CXE P w) 1 A.a_law_sign A.d_law_sign ["cell"] (spW K wSign) := by
  refine okW T.F_law_sign sc_law_sign (fun ds Q E h => ?_) (fun cdv Ar outer s H E hr => ?_)
  · obtain ⟨_, rfl, _⟩ := h; rfl
  refine ⟨_, (pss_cons (ps_set (i := 1) sc_law_sign.nd rfl (Or.inl rfl) pe_str)
      (pss_cons (ps_set (i := 1) sc_law_sign.nd rfl (Or.inl rfl) (pe_op op_add_str (pv 1) pe_str))
      (pss_one (ps_ret (pe_ix ix_str (pv 1) (pe_op op_mod (pv 0) pe_int) (fun _ _ => rfl)))))), _, (sv_seq (sv_asg ev_str (gv_name 1))
      (sv_seq (sv_asg (ev_op ro_cats (bv_var 1) (bv_ev ev_str)) (gv_name 1))
      (sv_ret (bv_ev (ev_op ro_ixs (bv_var 1) (bv_ev (ev_mdk (k := 96) (by decide) (bv_var 0) ev_int))))))), ?_⟩
  rintro ds Q X ⟨c, rfl, k⟩
  walk_at "s"
  walk_at "s"
  walk_at "d"
  refine ⟨by decide +kernel, by decide +kernel, ?_⟩
  have hl : (Str.ofString " !\"#$&'()*+,-./0123456789:;<=>?@ABCDEFGHIJKLMNOPQRSTUVWXYZ[\\]^_`" ++ Str.ofString "abcdefghijklmnopqrstuvwxyz{|}~\n\t").cps.toList.length = 96 := by decide +kernel
  obtain ⟨g, _, hg⟩ := atI_some (xs := (Str.ofString " !\"#$&'()*+,-./0123456789:;<=>?@ABCDEFGHIJKLMNOPQRSTUVWXYZ[\\]^_`" ++ Str.ofString "abcdefghijklmnopqrstuvwxyz{|}~\n\t").cps.toList) (i := c % 96) (by omega) (by rw [hl]; omega)
  exact ⟨g, hg, k g⟩
noncomputable def wGreat : DW := fun ds Q _ => ∃ c : Int, ds = [.int c] ∧ Bg 1100000 c ∧ ∀ v : Int, v.natAbs < 10 ^ 40 → Q (.dat (.int v))
theorem ok_law_great (T : Txt K mg A) : FnOk P w K mg base (CXE P w) 1 A.a_law_great A.d_law_great ["cell"] (spW K wGreat) := by
  refine okW T.F_law_great sc_law_great (fun ds Q E h => ?_) (fun cdv Ar outer s H E hr => ?_)
  · obtain ⟨_, rfl, _⟩ := h; rfl
  refine ⟨_, (pss_cons (ps_if (pt_cmpR op_gt (pe_op op_mod (pv 0) pe_int) pe_int (nomark _)) (pss_one (ps_ret (pe_op op_sub (pe_op op_mod (pe_op op_fdivB (pv 0) pe_int) pe_int) pe_int))) pss_nil)
      (pss_one (ps_ret (pe_op op_add (pe_op op_sub (pe_op op_mod (pe_op op_mulB (pe_op op_fdivB (pv 0) pe_int) (pe_op op_add (pe_op op_add (pe_op op_mulB pe_int (pe_op op_pow pe_int pe_int)) (pe_op op_mulB pe_int (pe_op op_pow pe_int pe_int))) pe_int)) (pe_op op_sub (pe_op op_mulB pe_int (pe_op op_pow pe_int pe_int)) pe_int)) (pe_op op_pow pe_int pe_int)) pe_int)))), _, (sv_seq (sv_if (tv_test (bv_ev (ev_op ro_b0 (bv_ev (ev_mdk (k := 3) (by decide) (bv_var 0) ev_int)) (bv_ev ev_int)))) (sv_ret (bv_ev (ev_op ro_i0 (bv_ev (ev_mdk (k := 61) (by decide) (bv_ev (ev_dvk (k := 3) (cdiv (by decide +kernel)) (bv_var 0) ev_int)) ev_int)) (bv_ev ev_int)))) sv_next)
      (sv_ret (bv_ev (ev_op ro_i0 (bv_ev (ev_op ro_i0 (bv_ev (ev_mdk (k := 19999999999999999999999999999999999999999) (by decide) (bv_ev (ev_op ro_i (bv_ev (ev_dvk (k := 3) (cdiv (by decide +kernel)) (bv_var 0) ev_int)) (bv_ev (ev_k (v := 900000000000000482710000000000000069621) (ev_op ro_i0 (bv_ev (ev_op ro_i0 (bv_ev (ev_op ro_i (bv_ev ev_int) (bv_ev (ev_op ro_i (bv_ev ev_int) (bv_ev ev_int))))) (bv_ev (ev_op ro_i (bv_ev ev_int) (bv_ev (ev_op ro_i (bv_ev ev_int) (bv_ev ev_int))))))) (bv_ev ev_int)) (fun ex δ Q h => ⟨cpow (by decide +kernel), mulOk (wee (by decide +kernel)) (wee (by decide +kernel)), cpow (by decide +kernel), mulOk (wee (by decide +kernel)) (wee (by decide +kernel)), Eq.mpr (congrArg (fun z => Q (.int z)) (by decide +kernel : ((((9 * (10 ^ Int.toNat 38)) + (48271 * (10 ^ Int.toNat 19))) + 69621) : Int) = 900000000000000482710000000000000069621)) h⟩))))) (ev_k (v := 19999999999999999999999999999999999999999) (ev_op ro_i0 (bv_ev (ev_op ro_i (bv_ev ev_int) (bv_ev (ev_op ro_i (bv_ev ev_int) (bv_ev ev_int))))) (bv_ev ev_int)) (fun ex δ Q h => ⟨cpow (by decide +kernel), mulOk (wee (by decide +kernel)) (wee (by decide +kernel)), Eq.mpr (congrArg (fun z => Q (.int z)) (by decide +kernel : (((2 * (10 ^ Int.toNat 40)) - 1) : Int) = 19999999999999999999999999999999999999999)) h⟩)))) (bv_ev (ev_k (v := 10000000000000000000000000000000000000000) (ev_op ro_i (bv_ev ev_int) (bv_ev ev_int)) (fun ex δ Q h => ⟨cpow (by decide +kernel), Eq.mpr (congrArg (fun z => Q (.int z)) (by decide +kernel : ((10 ^ Int.toNat 40) : Int) = 10000000000000000000000000000000000000000)) h⟩))))) (bv_ev ev_int))))), ?_⟩
  rintro ds Q X ⟨c, rfl, hc, k⟩
  walk_at "s"
  refine ite2 (fun c2 => ?_) (fun c2 => ?_)
  · exact k _ (by omega)
  · walk_at "d"
    refine ⟨mulOkBig (Nat.le_trans (hc.div 3 (by decide)).bits (by decide)) (wee (by decide +kernel)), k _ ?_⟩
    generalize c / 3 * 900000000000000482710000000000000069621 = z
    omega
noncomputable def wLowest : DW := fun ds Q _ => ∃ t b : Int, ds = [.int t, .int b] ∧ t.natAbs < 10 ^ 40 ∧ 1 ≤ b ∧ b < 10 ^ 40 ∧ ∀ p q : Int, p.natAbs < 10 ^ 50 → q.natAbs < 10 ^ 50 → Q (.dat (.tuple [.int p, .int q]))
theorem ok_law_lowest (T : Txt K mg A) : FnOk P w K mg base (CXE P w) 2 A.a_law_lowest A.d_law_lowest ["top", "bottom"] (spW K wLowest) := by
  have G_law_divisor := ok_law_divisor (P := P) (w := w) (base := base) T
  refine okW T.F_law_lowest sc_law_lowest (fun ds Q E h => ?_) (fun cdv Ar outer s H E hr => ?_)
  · obtain ⟨_, _, rfl, _⟩ := h; rfl
  refine ⟨_, (pss_cons (ps_set (i := 2) sc_law_lowest.nd rfl (Or.inl rfl) (pe_call G_law_divisor (hr.mono (by decide)) rfl T.m_law_divisor T.F_law_divisor.kp T.b_law_divisor .nil passE0 (pa_cons (pv 0) (pa_cons (pv 1) pa_nil))))
      (pss_one (ps_ret (pe_tup (pa_cons (pe_op op_fdivB (pv 0) (pv 2)) (pa_cons (pe_op op_fdivB (pv 1) (pv 2)) pa_nil)))))), _, (sv_seq (sv_asg (ev_call0 (av_cons (bv_var 0) (av_cons (bv_var 1) av_nil))) (gv_name 2))
      (sv_ret (bv_ev (ev_tup (ae_cons (ev_op ro_i (bv_var 0) (bv_var 2)) (ae_cons (ev_op ro_i (bv_var 1) (bv_var 2)) ae_nil)) (by decide))))), ?_⟩
  rintro ds Q X ⟨t, b, rfl, ht, hb1, hb2, k⟩
  walk_at "s"
  refine ⟨t, b, rfl, by omega, ?_⟩
  have g0 : (0 : Int) < ((Int.gcd t b : Nat) : Int) := by have := Fm.gcd_pos_right (a := t) (b := b) (by omega); omega
  have gl : Int.gcd t b ≤ b.natAbs := Fm.gcd_le_right (a := t) (b := b) (by omega)
  obtain ⟨gg, hgg⟩ : ∃ gg : Int, ((Int.gcd t b : Nat) : Int) = gg := ⟨_, rfl⟩
  rw [hgg] at g0 ⊢
  have gw : CDivB 0 gg := ⟨g0, weeLe (n := 10 ^ 40) (by omega) (by decide +kernel)⟩
  have tq : (t / gg).natAbs < 10 ^ 50 := Nat.lt_of_le_of_lt (Int.natAbs_ediv_le_natAbs t gg) (Nat.lt_trans ht (by decide))
  have bq : (b / gg).natAbs < 10 ^ 50 := Nat.lt_of_le_of_lt (Int.natAbs_ediv_le_natAbs b gg) (Nat.lt_trans (m := 10 ^ 40) (by omega) (by decide))
  walk_at "d"
  exact ⟨gw, gw, k _ _ tq bq⟩
noncomputable def wCell : DW := fun ds Q _ => ∃ (ns : List Int) (kk : Int), ds = [.list (ns.map .int), .int kk] ∧ (∀ v ∈ ns, Bg 1048577 v) ∧ 0 ≤ kk ∧ kk < 100 ∧ ∀ v : Int, Bg 1048577 v → Q (.dat (.int v))
theorem ok_law_cell (T : Txt K mg A) : FnOk P w K mg base (CXE P w) 1 A.a_law_cell A.d_law_cell ["script", "k"] (spW K wCell) := by
  refine okW T.F_law_cell sc_law_cell (fun ds Q E h => ?_) (fun cdv Ar outer s H E hr => ?_)
  · obtain ⟨_, _, rfl, _⟩ := h; rfl
  refine ⟨_, (pss_cons (ps_if (pt_cmpR op_lt (pv 1) (pe_callB (lenK (K := K) rfl) rfl T.n_len PySem.boot_len (pa_cons (pv 0) pa_nil)) (nomark _)) (pss_one (ps_ret (pe_ix (ixlK (K := K) rfl) (pv 0) (pv 1) (fun _ _ => rfl)))) pss_nil)
      (pss_one (ps_ret (pe_op op_add (pe_op op_add (pe_op op_mulB (pe_op op_mulB pe_int (pv 1)) (pv 1)) (pe_op op_mulB pe_int (pv 1))) pe_int)))), _, (sv_seq (sv_if (tv_test (bv_ev (ev_op ro_b0 (bv_var 1) (bv_ev (ev_cb rb_len (av_cons (bv_var 0) av_nil)))))) (sv_ret (bv_ev (ev_ixl (lv_var 0) (bv_var 1)))) sv_next)
      (sv_ret (bv_ev (ev_op ro_i0 (bv_ev (ev_op ro_i0 (bv_ev (ev_op ro_i (bv_ev (ev_op ro_i (bv_ev ev_int) (bv_var 1))) (bv_var 1))) (bv_ev (ev_op ro_i (bv_ev ev_int) (bv_var 1))))) (bv_ev ev_int))))), ?_⟩
  rintro ds Q X ⟨ns, kk, rfl, hb, k0, k1, k⟩
  walk_at "s"
  refine ite2 (fun c => ?_) (fun c => ?_)
  · walk_at "d"
    obtain ⟨n, rfl⟩ : ∃ n : Nat, kk = (n : Int) := ⟨kk.toNat, by omega⟩
    have hn : n < ns.length := by omega
    refine ⟨_, atI_nat (by rw [List.getElem?_map, List.getElem?_eq_getElem hn]; rfl), k _ (hb _ (List.getElem_mem hn))⟩
  · walk_at "d"
    have w1 : Wee kk := weeLe (n := 100) (by omega) (by decide +kernel)
    have w5 : Wee (5 * kk) := weeLe (n := 1000) (by omega) (by decide +kernel)
    have hm : 0 ≤ 5 * kk * kk ∧ 5 * kk * kk ≤ 500 * 100 := ⟨Int.mul_nonneg (by omega) k0, Int.mul_le_mul (by omega) (by omega) k0 (by omega)⟩
    refine ⟨mulOk (wee (by decide +kernel)) w1, mulOk w5 w1, mulOk (wee (by decide +kernel)) w1, k _ ?_⟩
    exact Bg.small (by omega) (by decide)
end
noncomputable abbrev Mk7 := (Int × Int) × (Int × Int) × Int
noncomputable def mD (m : Mk7) : PyData := .tuple [.tuple [.int m.1.1, .int m.1.2], .tuple [.int m.2.1.1, .int m.2.1.2], .int m.2.2]
noncomputable def shF (t b : Int) : Str := if b = 1 then Str.ofString (toString t) else Str.ofString (toString t) ++ Str.ofString "/" ++ Str.ofString (toString b)
noncomputable def shM (m : Mk7) : Str := shF m.1.1 m.1.2 ++ Str.ofString ":" ++ shF m.2.1.1 m.2.1.2 ++ Str.ofString "*" ++ Str.ofString (toString m.2.2)
noncomputable def Sm7 (m : Mk7) : Prop := m.1.1.natAbs < 10 ^ 50 ∧ m.1.2.natAbs < 10 ^ 50 ∧ m.2.1.1.natAbs < 10 ^ 50 ∧ m.2.1.2.natAbs < 10 ^ 50 ∧ m.2.2.natAbs < 10 ^ 50
theorem shF_len {t b : Int} (ht : t.natAbs < 10 ^ 50) (hb : b.natAbs < 10 ^ 50) : (shF t b).length ≤ 103 := by
  have l1 := txt_len ht
  have l2 := txt_len hb
  have sl := slash_len
  unfold shF
  split
  · omega
  · rw [PySem.Str.length_append, PySem.Str.length_append]; omega
theorem colon_len : (Str.ofString ":").length = 1 := by decide +kernel
theorem star_len : (Str.ofString "*").length = 1 := by decide +kernel
theorem blank_len : (Str.ofString " ").length = 1 := by decide +kernel
theorem shM_len {m : Mk7} (h : Sm7 m) : 1 ≤ (shM m).length ∧ (shM m).length ≤ 259 := by
  have l1 := shF_len h.1 h.2.1
  have l2 := shF_len h.2.2.1 h.2.2.2.1
  have l3 := txt_len h.2.2.2.2
  have := colon_len
  have := star_len
  unfold shM
  rw [PySem.Str.length_append, PySem.Str.length_append, PySem.Str.length_append, PySem.Str.length_append]
  omega
section
variable {P : Program} {w : World} {K : PySem.W.Frag} {mg : Str → Option Value} {base : Heap} {A : Adr}
noncomputable def wShowF : DW := fun ds Q _ => ∃ t b : Int, ds = [.tuple [.int t, .int b]] ∧ t.natAbs < 10 ^ 50 ∧ b.natAbs < 10 ^ 50 ∧ Q (.dat (.str (shF t b)))
theorem ok_show_fractionF (T : Txt K mg A) : FnOk P w K mg base (CXE P w) 1 A.a_show_fraction A.d_show_fraction ["x"] (spW K wShowF) := by
  refine okW T.F_show_fraction sc_show_fraction (fun ds Q E h => ?_) (fun cdv Ar outer s H E hr => ?_)
  · obtain ⟨_, _, rfl, _⟩ := h; rfl
  refine ⟨_, (pss_cons (ps_if (pt_cmpR op_eq (pe_ix (ixtK (K := K) rfl) (pv 0) pe_int (fun _ _ => rfl)) pe_int (nomark _)) (pss_one (ps_ret (pe_callTy call_str_int rfl T.n_str Dl.boot_str (pa_cons (pe_ix (ixtK (K := K) rfl) (pv 0) pe_int (fun _ _ => rfl)) pa_nil)))) pss_nil)
      (pss_one (ps_ret (pe_op op_add_str (pe_op op_add_str (pe_callTy call_str_int rfl T.n_str Dl.boot_str (pa_cons (pe_ix (ixtK (K := K) rfl) (pv 0) pe_int (fun _ _ => rfl)) pa_nil)) pe_str) (pe_callTy call_str_int rfl T.n_str Dl.boot_str (pa_cons (pe_ix (ixtK (K := K) rfl) (pv 0) pe_int (fun _ _ => rfl)) pa_nil)))))), _, (sv_seq (sv_if (tv_test (bv_ev (ev_op ro_eq (bv_ev (ev_ixk 1 (ev_var 0))) (bv_ev ev_int)))) (sv_ret (bv_ev (ev_cb rb_str (av_cons (bv_ev (ev_ixk 0 (ev_var 0))) av_nil)))) sv_next)
      (sv_ret (bv_ev (ev_op ro_cats (bv_ev (ev_op ro_cats (bv_ev (ev_cb rb_str (av_cons (bv_ev (ev_ixk 0 (ev_var 0))) av_nil))) (bv_ev ev_str))) (bv_ev (ev_cb rb_str (av_cons (bv_ev (ev_ixk 1 (ev_var 0))) av_nil))))))), ?_⟩
  rintro ds Q X ⟨t, b, rfl, ht, hb, k⟩
  have l1 := txt_len ht
  have l2 := txt_len hb
  have sl := slash_len
  unfold shF at k
  walk_at "s"
  refine ite2 (fun c => ⟨logOk ht, ?_⟩) (fun c => ⟨logOk ht, by omega, logOk hb, by rw [PySem.Str.length_append]; omega, ?_⟩)
  · rw [if_pos c] at k; exact k
  · rw [if_neg c] at k; exact k
theorem ok_law_written (T : Txt K mg A) : FnOk P w K mg base (CXE P w) 1 A.a_law_written A.d_law_written ["x"] (spW K wShowF) := by
  refine okW T.F_law_written sc_law_written (fun ds Q E h => ?_) (fun cdv Ar outer s H E hr => ?_)
  · obtain ⟨_, _, rfl, _⟩ := h; rfl
  refine ⟨_, (pss_cons (ps_if (pt_cmpR op_eq (pe_ix (ixtK (K := K) rfl) (pv 0) pe_int (fun _ _ => rfl)) pe_int (nomark _)) (pss_one (ps_ret (pe_callTy call_str_int rfl T.n_str Dl.boot_str (pa_cons (pe_ix (ixtK (K := K) rfl) (pv 0) pe_int (fun _ _ => rfl)) pa_nil)))) pss_nil)
      (pss_one (ps_ret (pe_op op_add_str (pe_op op_add_str (pe_callTy call_str_int rfl T.n_str Dl.boot_str (pa_cons (pe_ix (ixtK (K := K) rfl) (pv 0) pe_int (fun _ _ => rfl)) pa_nil)) pe_str) (pe_callTy call_str_int rfl T.n_str Dl.boot_str (pa_cons (pe_ix (ixtK (K := K) rfl) (pv 0) pe_int (fun _ _ => rfl)) pa_nil)))))), _, (sv_seq (sv_if (tv_test (bv_ev (ev_op ro_eq (bv_ev (ev_ixk 1 (ev_var 0))) (bv_ev ev_int)))) (sv_ret (bv_ev (ev_cb rb_str (av_cons (bv_ev (ev_ixk 0 (ev_var 0))) av_nil)))) sv_next)
      (sv_ret (bv_ev (ev_op ro_cats (bv_ev (ev_op ro_cats (bv_ev (ev_cb rb_str (av_cons (bv_ev (ev_ixk 0 (ev_var 0))) av_nil))) (bv_ev ev_str))) (bv_ev (ev_cb rb_str (av_cons (bv_ev (ev_ixk 1 (ev_var 0))) av_nil))))))), ?_⟩
  rintro ds Q X ⟨t, b, rfl, ht, hb, k⟩
  have l1 := txt_len ht
  have l2 := txt_len hb
  have sl := slash_len
  unfold shF at k
  walk_at "s"
  refine ite2 (fun c => ⟨logOk ht, ?_⟩) (fun c => ⟨logOk ht, by omega, logOk hb, by rw [PySem.Str.length_append]; omega, ?_⟩)
  · rw [if_pos c] at k; exact k
  · rw [if_neg c] at k; exact k
noncomputable def wShowM : DW := fun ds Q _ => ∃ m : Mk7, ds = [mD m] ∧ Sm7 m ∧ Q (.dat (.str (shM m)))
theorem ok_show_mark (T : Txt K mg A) : FnOk P w K mg base (CXE P w) 2 A.a_show_mark A.d_show_mark ["mark"] (spW K wShowM) := by
  have G_show_fraction := ok_show_fractionF (P := P) (w := w) (base := base) T
  refine okW T.F_show_mark sc_show_mark (fun ds Q E h => ?_) (fun cdv Ar outer s H E hr => ?_)
  · obtain ⟨_, rfl, _⟩ := h; rfl
  refine ⟨_, (pss_one (ps_ret (pe_op op_add_str (pe_op op_add_str (pe_op op_add_str (pe_op op_add_str (pe_call G_show_fraction (hr.mono (by decide)) rfl T.m_show_fraction T.F_show_fraction.kp T.b_show_fraction .nil passE0 (pa_cons (pe_ix (ixtK (K := K) rfl) (pv 0) pe_int (fun _ _ => rfl)) pa_nil)) pe_str) (pe_call G_show_fraction (hr.mono (by decide)) rfl T.m_show_fraction T.F_show_fraction.kp T.b_show_fraction .nil passE0 (pa_cons (pe_ix (ixtK (K := K) rfl) (pv 0) pe_int (fun _ _ => rfl)) pa_nil))) pe_str) (pe_callTy call_str_int rfl T.n_str Dl.boot_str (pa_cons (pe_ix (ixtK (K := K) rfl) (pv 0) pe_int (fun _ _ => rfl)) pa_nil))))), _, (sv_ret (bv_ev (ev_op ro_cats (bv_ev (ev_op ro_cats (bv_ev (ev_op ro_cats (bv_ev (ev_op ro_cats (bv_ev (ev_call0 (av_cons (bv_ev (ev_ixk 0 (ev_var 0))) av_nil))) (bv_ev ev_str))) (bv_ev (ev_call0 (av_cons (bv_ev (ev_ixk 1 (ev_var 0))) av_nil))))) (bv_ev ev_str))) (bv_ev (ev_cb rb_str (av_cons (bv_ev (ev_ixk 2 (ev_var 0))) av_nil)))))), ?_⟩
  rintro ds Q X ⟨⟨⟨a, b⟩, ⟨c, d⟩, e⟩, rfl, ⟨h1, h2, h3, h4, h5⟩, k⟩
  have l1 := shF_len h1 h2
  have l2 := shF_len h3 h4
  have l3 := txt_len h5
  have c1 := colon_len
  have c2 := star_len
  unfold mD
  unfold shM at k
  dsimp only at h1 h2 h3 h4 h5 l1 l2 l3 k ⊢
  walk_at "d"
  refine ⟨a, b, rfl, h1, h2, ?_⟩
  walk_at "d"
  refine ⟨by omega, c, d, rfl, h3, h4, ?_⟩
  walk_at "d"
  exact ⟨by rw [PySem.Str.length_append]; omega, by rw [PySem.Str.length_append, PySem.Str.length_append]; omega, logOk h5, by rw [PySem.Str.length_append, PySem.Str.length_append, PySem.Str.length_append]; omega, k⟩
theorem ok_law_word (T : Txt K mg A) : FnOk P w K mg base (CXE P w) 2 A.a_law_word A.d_law_word ["mark"] (spW K wShowM) := by
  have G_law_written := ok_law_written (P := P) (w := w) (base := base) T
  refine okW T.F_law_word sc_law_word (fun ds Q E h => ?_) (fun cdv Ar outer s H E hr => ?_)
  · obtain ⟨_, rfl, _⟩ := h; rfl
  refine ⟨_, (pss_one (ps_ret (pe_op op_add_str (pe_op op_add_str (pe_op op_add_str (pe_op op_add_str (pe_call G_law_written (hr.mono (by decide)) rfl T.m_law_written T.F_law_written.kp T.b_law_written .nil passE0 (pa_cons (pe_ix (ixtK (K := K) rfl) (pv 0) pe_int (fun _ _ => rfl)) pa_nil)) pe_str) (pe_call G_law_written (hr.mono (by decide)) rfl T.m_law_written T.F_law_written.kp T.b_law_written .nil passE0 (pa_cons (pe_ix (ixtK (K := K) rfl) (pv 0) pe_int (fun _ _ => rfl)) pa_nil))) pe_str) (pe_callTy call_str_int rfl T.n_str Dl.boot_str (pa_cons (pe_ix (ixtK (K := K) rfl) (pv 0) pe_int (fun _ _ => rfl)) pa_nil))))), _, (sv_ret (bv_ev (ev_op ro_cats (bv_ev (ev_op ro_cats (bv_ev (ev_op ro_cats (bv_ev (ev_op ro_cats (bv_ev (ev_call0 (av_cons (bv_ev (ev_ixk 0 (ev_var 0))) av_nil))) (bv_ev ev_str))) (bv_ev (ev_call0 (av_cons (bv_ev (ev_ixk 1 (ev_var 0))) av_nil))))) (bv_ev ev_str))) (bv_ev (ev_cb rb_str (av_cons (bv_ev (ev_ixk 2 (ev_var 0))) av_nil)))))), ?_⟩
  rintro ds Q X ⟨⟨⟨a, b⟩, ⟨c, d⟩, e⟩, rfl, ⟨h1, h2, h3, h4, h5⟩, k⟩
  have l1 := shF_len h1 h2
  have l2 := shF_len h3 h4
  have l3 := txt_len h5
  have c1 := colon_len
  have c2 := star_len
  unfold mD
  unfold shM at k
  dsimp only at h1 h2 h3 h4 h5 l1 l2 l3 k ⊢
  walk_at "d"
  refine ⟨a, b, rfl, h1, h2, ?_⟩
  walk_at "d"
  refine ⟨by omega, c, d, rfl, h3, h4, ?_⟩
  walk_at "d"
  exact ⟨by rw [PySem.Str.length_append]; omega, by rw [PySem.Str.length_append, PySem.Str.length_append]; omega, logOk h5, by rw [PySem.Str.length_append, PySem.Str.length_append, PySem.Str.length_append]; omega, k⟩
theorem sum_le {α : Type} (f : α → Nat) (n : Nat) : ∀ xs : List α, (∀ x ∈ xs, f x ≤ n) → (xs.map f).sum ≤ xs.length * n
  | [], _ => by simp
  | x :: xs, h => by
    have h1 := h x (by simp)
    have h2 := sum_le f n xs fun y hy => h y (by simp [hy])
    rw [List.map_cons, List.sum_cons, List.length_cons, Nat.add_mul]
    omega
noncomputable def wShowMs : DW := fun ds Q _ => ∃ ms : List Mk7, ds = [.list (ms.map mD)] ∧ ms.length ≤ 100 ∧ (∀ m ∈ ms, Sm7 m) ∧ Q (.dat (.str (Txt.join (Str.ofString " ") (ms.map shM))))
theorem joins_fit {ms : List Mk7} (hl : ms.length ≤ 100) (h : ∀ m ∈ ms, Sm7 m) : ((ms.map shM).map (·.length)).sum + (ms.map shM).length * (Str.ofString " ").length ≤ 100000 := by
  have h1 := sum_le (fun z : Str => z.length) 259 (ms.map shM) fun z hz => by
    obtain ⟨m, hm, rfl⟩ := List.mem_map.mp hz
    exact (shM_len (h m hm)).2
  rw [blank_len, List.length_map] at *
  omega
theorem ok_show_marks (T : Txt K mg A) : FnOk P w K mg base (CXE P w) 3 A.a_show_marks A.d_show_marks ["some"] (spW K wShowMs) := by
  have G_show_mark := ok_show_mark (P := P) (w := w) (base := base) T
  refine okW T.F_show_marks sc_show_marks (fun ds Q E h => ?_) (fun cdv Ar outer s H E hr => ?_)
  · obtain ⟨_, rfl, _⟩ := h; rfl
  refine ⟨_, (pss_one (ps_ret (pe_bm PySem.F.plainAttrs_str PySem.F.slot_str_join PySem.F.type_str_join (mt_joinK (K := K) rfl) pe_str (pa_cons (pe_lc (cap := [none]) (NC := ["mark"]) rfl ⟨rfl, rfl, by decide +kernel, by decide +kernel, trivial, (fun _ h => nomatch h), rfl⟩ (pilK (K := K) rfl (pv 0)) (fun _ _ _ _ => (pg_name (i := 0) (show List.Nodup (["mark"] : List Str) by decide) rfl (Or.inl rfl))) (fun _ _ _ _ => pts_nil) (fun _ _ _ _ => (pe_call G_show_mark (hr.mono (by decide)) rfl T.m_show_mark T.F_show_mark.kp T.b_show_mark .nil passE0 (pa_cons (pv 0) pa_nil)))) pa_nil)))), _, (sv_ret (bv_ev (ev_join (bv_ev ev_str) (lv_ov (ov_lcX (ie_list (lv_var 0)) (gv_name 0) tv_yes (ev_call0 (av_cons (bv_var 0) av_nil)) (by decide) (by decide)))))), ?_⟩
  rintro ds Q X ⟨ms, rfl, hl, hs, k⟩
  walk_at "d"
  refine lcX_map mD PyData.str (fun m => [shM m]) (fun _ => True) ms (by omega) (fun Q h => by
      walk_at "d"
      exact h) (fun m hm N acc hN => ?_) fun _ => ?_
  · walk_at "d"
    refine ⟨m, rfl, hs m hm, ?_⟩
    walk_at "d"
    exact hN trivial
  · rw [flat_single]
    exact ⟨ms.map shM, rfl, joins_fit hl hs, k⟩
end
noncomputable def spotF (x : Str) : Option Mk7 :=
  match valF (PySem.Txt.partition x ":").1 with
  | none => none
  | some a => match valF (PySem.Txt.partition (PySem.Txt.partition x ":").2.2 "*").1 with
    | none => none
    | some b => match numF (PySem.Txt.partition (PySem.Txt.partition x ":").2.2 "*").2.2.cps.toList with
      | none => none
      | some n => if n < 1 then none else some (a, b, n)
noncomputable def optM : Option Mk7 → PyData
  | none => .none
  | some m => mD m
noncomputable def spotD (x : Str) : Mk7 := (spotF x).getD ((0, 1), (0, 1), 1)
theorem spotD_is {x : Str} {m : Mk7} (h : spotF x = some m) : spotD x = m := by
  unfold spotD
  rw [h]; rfl
theorem num_none_empty : numF Str.empty.cps.toList = none := by decide +kernel
theorem part_empty2 {x y : Str} (hy : y ≠ Str.empty) (h : (PySem.Txt.partition x y).2.1 = Str.empty) : (PySem.Txt.partition x y).2.2 = Str.empty := by
  cases hc : PySem.Txt.contains x y with
  | false => rw [part_not hc]
  | true => exact absurd ((part_in hc).symm.trans h) hy
theorem colon_ne : (Str.ofString ":") ≠ Str.empty := by decide +kernel
theorem star_ne : (Str.ofString "*") ≠ Str.empty := by decide +kernel
theorem part_of_empty {y : Str} (hy : y ≠ Str.empty) : (PySem.Txt.partition Str.empty y).2.2 = Str.empty := by
  have h := (part_len Str.empty y).2.2
  have e : Str.empty.length = 0 := by decide +kernel
  apply str_ext
  have : (PySem.Txt.partition Str.empty y).2.2.cps.toList = [] := List.length_eq_zero_iff.mp (by rw [str_len]; omega)
  rw [this]; rfl
section
variable {P : Program} {w : World} {K : PySem.W.Frag} {mg : Str → Option Value} {base : Heap} {A : Adr}
noncomputable def wMark (C : Addr) : DW := fun ds Q X => (∃ x : Str, ds = [.str x] ∧ x.length ≤ 100000 ∧ (∀ m, spotF x = some m → Q (.dat (mD m))) ∧ (spotF x = none → X C)) ∨ (∃ d, ds = [d] ∧ (∀ x, d ≠ .str x) ∧ X C)
theorem ok_read_mark (T : Txt K mg A) : FnOk P w K mg base (CXE P w) 4 A.a_read_mark A.d_read_mark ["text"] (spW K (wMark A.x_NoText)) := by
  have G_check_text := ok_check_text (P := P) (w := w) (base := base) T
  have G_read_whole := ok_read_whole (P := P) (w := w) (base := base) T
  have G_read_fraction := ok_read_fraction (P := P) (w := w) (base := base) T
  refine okW T.F_read_mark sc_read_mark (fun ds Q E h => ?_) (fun cdv Ar outer s H E hr => ?_)
  · rcases h with ⟨_, rfl, _⟩ | ⟨_, rfl, _⟩ <;> rfl
  refine ⟨_, (pss_cons (ps_expr (pe_call G_check_text (hr.mono (by decide)) rfl T.m_check_text T.F_check_text.kp T.b_check_text .nil pass_own (pa_cons (pv 0) pa_nil)))
      (pss_cons (ps_set (i := 1) sc_read_mark.nd rfl (Or.inl rfl) (pe_bm PySem.F.plainAttrs_str PySem.F.slot_str_partition PySem.F.type_str_partition mt_partition (pv 0) (pa_cons pe_str pa_nil)))
      (pss_cons (ps_set (i := 2) sc_read_mark.nd rfl (Or.inl rfl) (pe_bm PySem.F.plainAttrs_str PySem.F.slot_str_partition PySem.F.type_str_partition mt_partition (pe_ix (ixtK (K := K) rfl) (pv 1) pe_int (fun _ _ => rfl)) (pa_cons pe_str pa_nil)))
      (pss_cons (ps_set (i := 3) sc_read_mark.nd rfl (Or.inl rfl) (pe_call G_read_fraction (hr.mono (by decide)) rfl T.m_read_fraction T.F_read_fraction.kp T.b_read_fraction .nil pass_own (pa_cons (pe_ix (ixtK (K := K) rfl) (pv 1) pe_int (fun _ _ => rfl)) pa_nil)))
      (pss_cons (ps_set (i := 4) sc_read_mark.nd rfl (Or.inl rfl) (pe_call G_read_fraction (hr.mono (by decide)) rfl T.m_read_fraction T.F_read_fraction.kp T.b_read_fraction .nil pass_own (pa_cons (pe_ix (ixtK (K := K) rfl) (pv 2) pe_int (fun _ _ => rfl)) pa_nil)))
      (pss_cons (ps_set (i := 5) sc_read_mark.nd rfl (Or.inl rfl) (pe_call G_read_whole (hr.mono (by decide)) rfl T.m_read_whole T.F_read_whole.kp T.b_read_whole .nil pass_own (pa_cons (pe_ix (ixtK (K := K) rfl) (pv 2) pe_int (fun _ _ => rfl)) pa_nil)))
      (pss_cons (ps_if (pt_cmpR op_lt (pv 5) pe_int (nomark _)) (pss_one (ps_raise T.x_NoText hr.hd pass_own rfl (pa_cons pe_str pa_nil))) pss_nil)
      (pss_one (ps_ret (pe_tup (pa_cons (pv 3) (pa_cons (pv 4) (pa_cons (pv 5) pa_nil))))))))))))), _, (sv_seq (sv_expr (bv_ev (ev_call (av_cons (bv_var 0) av_nil))))
      (sv_seq (sv_asg (ev_partn (bv_var 0) (bv_ev ev_str)) (gv_name 1))
      (sv_seq (sv_asg (ev_partn (bv_ev (ev_ixk 2 (ev_var 1))) (bv_ev ev_str)) (gv_name 2))
      (sv_seq (sv_asg (ev_call (av_cons (bv_ev (ev_ixk 0 (ev_var 1))) av_nil)) (gv_name 3))
      (sv_seq (sv_asg (ev_call (av_cons (bv_ev (ev_ixk 0 (ev_var 2))) av_nil)) (gv_name 4))
      (sv_seq (sv_asg (ev_call (av_cons (bv_ev (ev_ixk 2 (ev_var 2))) av_nil)) (gv_name 5))
      (sv_seq (sv_if (tv_test (bv_ev (ev_op ro_b0 (bv_var 5) (bv_ev ev_int)))) (sv_raise (ae_cons ev_str ae_nil) (by decide)) sv_next)
      (sv_ret (bv_ev (ev_tup (ae_cons (ev_var 3) (ae_cons (ev_var 4) (ae_cons (ev_var 5) ae_nil))) (by decide))))))))))), ?_⟩
  rintro ds Q X (⟨x, rfl, hx, k1, k2⟩ | ⟨d, rfl, hd, k⟩)
  · walk_at "s"
    refine ⟨.str x, rfl, fun _ => ?_, fun z => absurd rfl (z x)⟩
    obtain ⟨l1, _, l3⟩ := part_len x ":"
    obtain ⟨l4, _, l6⟩ := part_len (PySem.Txt.partition x ":").2.2 "*"
    unfold spotF at k1 k2
    walk_at "s"
    refine ⟨hx, by rw [colon_len]; rfl, ?_⟩
    walk_at "s"
    refine ⟨by omega, by rw [star_len]; rfl, ?_⟩
    walk_at "s"
    refine .inl ⟨_, rfl, by omega, fun a b hv => ?_, fun hn => k2 ?_⟩
    · rw [hv] at k1 k2
      dsimp only at k1 k2
      walk_at "s"
      refine .inl ⟨_, rfl, by omega, fun c d hv2 => ?_, fun hn => k2 ?_⟩
      · rw [hv2] at k1 k2
        dsimp only at k1 k2
        walk_at "s"
        refine ⟨_, rfl, by omega, fun n hn => ?_, fun hn => k2 ?_⟩
        · rw [hn] at k1 k2
          dsimp only at k1 k2
          walk_at "s"
          refine ite2 (fun c3 => ?_) (fun c3 => ?_)
          · exact k2 (if_pos c3)
          · walk_at "d"
            exact k1 ((a, b), (c, d), n) (if_neg c3)
        · rw [hn]
      · rw [hn]
    · rw [hn]
  · walk_at "s"
    exact ⟨d, rfl, fun ⟨x, e⟩ => absurd e (hd x), fun _ => k⟩
noncomputable def wSpot : DW := fun ds Q _ => ∃ x : Str, ds = [.str x] ∧ x.length ≤ 100000 ∧ Q (.dat (optM (spotF x)))
theorem ok_law_spot (T : Txt K mg A) : FnOk P w K mg base (CXE P w) 3 A.a_law_spot A.d_law_spot ["word"] (spW K wSpot) := by
  have G_law_number := ok_law_number (P := P) (w := w) (base := base) T
  have G_law_value := ok_law_value (P := P) (w := w) (base := base) T
  refine okW T.F_law_spot sc_law_spot (fun ds Q E h => ?_) (fun cdv Ar outer s H E hr => ?_)
  · obtain ⟨_, rfl, _⟩ := h; rfl
  refine ⟨_, (pss_cons (ps_asg (pe_bm PySem.F.plainAttrs_str PySem.F.slot_str_partition PySem.F.type_str_partition mt_partition (pv 0) (pa_cons pe_str pa_nil)) (pgtK (K := K) (n := 3) rfl rfl (pgs_cons (pg_name (i := 1) sc_law_spot.nd rfl (Or.inl rfl)) (pgs_cons (pg_name (i := 2) sc_law_spot.nd rfl (Or.inl rfl)) (pgs_cons (pg_name (i := 3) sc_law_spot.nd rfl (Or.inl rfl)) pgs_nil)))))
      (pss_cons (ps_asg (pe_bm PySem.F.plainAttrs_str PySem.F.slot_str_partition PySem.F.type_str_partition mt_partition (pv 3) (pa_cons pe_str pa_nil)) (pgtK (K := K) (n := 3) rfl rfl (pgs_cons (pg_name (i := 4) sc_law_spot.nd rfl (Or.inl rfl)) (pgs_cons (pg_name (i := 5) sc_law_spot.nd rfl (Or.inl rfl)) (pgs_cons (pg_name (i := 6) sc_law_spot.nd rfl (Or.inl rfl)) pgs_nil)))))
      (pss_cons (ps_set (i := 7) sc_law_spot.nd rfl (Or.inl rfl) (pe_call G_law_number (hr.mono (by decide)) rfl T.m_law_number T.F_law_number.kp T.b_law_number .nil passE0 (pa_cons (pv 6) pa_nil)))
      (pss_cons (ps_if (PW.pt (pw_or (pt_cmpR op_eq (pv 2) pe_str (nomark _)) (pw_or (pt_cmpR op_eq (pv 5) pe_str (nomark _)) (pw_or (pt_cmpR op_isN (pv 7) pe_non (nomark _)) (pw_or1 (pt_cmpR op_lt (pv 7) pe_int (nomark _))))))) (pss_one (ps_ret pe_non)) pss_nil)
      (pss_cons (ps_if (PW.pt (pw_or (pt_cmpR op_isN (pe_call G_law_value (hr.mono (by decide)) rfl T.m_law_value T.F_law_value.kp T.b_law_value .nil passE0 (pa_cons (pv 1) pa_nil)) pe_non (nomark _)) (pw_or1 (pt_cmpR op_isN (pe_call G_law_value (hr.mono (by decide)) rfl T.m_law_value T.F_law_value.kp T.b_law_value .nil passE0 (pa_cons (pv 4) pa_nil)) pe_non (nomark _))))) (pss_one (ps_ret pe_non)) pss_nil)
      (pss_one (ps_ret (pe_tup (pa_cons (pe_call G_law_value (hr.mono (by decide)) rfl T.m_law_value T.F_law_value.kp T.b_law_value .nil passE0 (pa_cons (pv 1) pa_nil)) (pa_cons (pe_call G_law_value (hr.mono (by decide)) rfl T.m_law_value T.F_law_value.kp T.b_law_value .nil passE0 (pa_cons (pv 4) pa_nil)) (pa_cons (pv 7) pa_nil))))))))))), _, (sv_seq (sv_asg (ev_partn (bv_var 0) (bv_ev ev_str)) (gv_tup (gs_cons (gv_name 1) (gs_cons (gv_name 2) (gs_cons (gv_name 3) gs_nil)))))
      (sv_seq (sv_asg (ev_partn (bv_var 3) (bv_ev ev_str)) (gv_tup (gs_cons (gv_name 4) (gs_cons (gv_name 5) (gs_cons (gv_name 6) gs_nil)))))
      (sv_seq (sv_asg (ev_call0 (av_cons (bv_var 6) av_nil)) (gv_name 7))
      (sv_seq (sv_if (tv_or (tv_test (bv_ev (ev_op ro_eq (bv_var 2) (bv_ev ev_str)))) (tv_or (tv_test (bv_ev (ev_op ro_eq (bv_var 5) (bv_ev ev_str)))) (tv_or (tv_test (bv_ev (ev_op ro_isN (bv_var 7) (bv_ev ev_non)))) (tv_test (bv_ev (ev_op ro_b0 (bv_var 7) (bv_ev ev_int))))))) (sv_ret (bv_ev ev_non)) sv_next)
      (sv_seq (sv_if (tv_or (tv_test (bv_ev (ev_op ro_isN (bv_ev (ev_call0 (av_cons (bv_var 1) av_nil))) (bv_ev ev_non)))) (tv_test (bv_ev (ev_op ro_isN (bv_ev (ev_call0 (av_cons (bv_var 4) av_nil))) (bv_ev ev_non))))) (sv_ret (bv_ev ev_non)) sv_next)
      (sv_ret (bv_ev (ev_tup (ae_cons (ev_call0 (av_cons (bv_var 1) av_nil)) (ae_cons (ev_call0 (av_cons (bv_var 4) av_nil)) (ae_cons (ev_var 7) ae_nil))) (by decide))))))))), ?_⟩
  rintro ds Q X ⟨x, rfl, hx, k⟩
  obtain ⟨l1, _, l3⟩ := part_len x ":"
  obtain ⟨l4, _, l6⟩ := part_len (PySem.Txt.partition x ":").2.2 "*"
  have none1 : (PySem.Txt.partition x ":").2.1 = Str.empty → spotF x = none := fun h => by
    have e := part_empty2 colon_ne h
    unfold spotF
    split
    · rfl
    · split
      · rfl
      · rw [e, part_of_empty star_ne, num_none_empty]
  have none2 : (PySem.Txt.partition (PySem.Txt.partition x ":").2.2 "*").2.1 = Str.empty → spotF x = none := fun h => by
    have e := part_empty2 star_ne h
    unfold spotF
    split
    · rfl
    · split
      · rfl
      · rw [e, num_none_empty]
  have none3 : numF (PySem.Txt.partition (PySem.Txt.partition x ":").2.2 "*").2.2.cps.toList = none → spotF x = none := fun h => by
    unfold spotF
    split
    · rfl
    · split
      · rfl
      · rw [h]
  have none4 : ∀ n, numF (PySem.Txt.partition (PySem.Txt.partition x ":").2.2 "*").2.2.cps.toList = some n → n < 1 → spotF x = none := fun n h h1 => by
    unfold spotF
    split
    · rfl
    · split
      · rfl
      · rw [h]
        exact if_pos h1
  have no : spotF x = none → Q (.dat .none) := fun h => by rw [h] at k; exact k
  walk_at "s"
  refine ⟨hx, by rw [colon_len]; rfl, ?_⟩
  walk_at "s"
  refine ⟨by omega, by rw [star_len]; rfl, ?_⟩
  walk_at "s"
  refine ⟨_, rfl, by omega, ?_⟩
  obtain ⟨pn, hpn⟩ : ∃ p, numF (PySem.Txt.partition (PySem.Txt.partition x ":").2.2 "*").2.2.cps.toList = p := ⟨_, rfl⟩
  rw [hpn]
  cases pn with
  | none =>
    simp only [optI]
    walk_at "s"
    rw [empty_eq]
    refine ite2 (fun c => no (none1 c)) (fun c => ?_)
    refine ite2 (fun c2 => no (none2 c2)) (fun c2 => ?_)
    walk_at "d"
    exact no (none3 hpn)
  | some n =>
    simp only [optI]
    walk_at "s"
    rw [empty_eq]
    refine ite2 (fun c => no (none1 c)) (fun c => ?_)
    refine ite2 (fun c2 => no (none2 c2)) (fun c2 => ?_)
    walk_at "d"
    refine ite2 (fun c3 => no (none4 n hpn c3)) (fun c3 => ?_)
    walk_at "s"
    refine .inl ⟨_, rfl, by omega, ?_⟩
    obtain ⟨pa, ha⟩ : ∃ p, valF (PySem.Txt.partition x ":").1 = p := ⟨_, rfl⟩
    obtain ⟨pb, hb⟩ : ∃ p, valF (PySem.Txt.partition (PySem.Txt.partition x ":").2.2 "*").1 = p := ⟨_, rfl⟩
    unfold spotF at k no
    rw [ha, hb, hpn] at k no
    rw [ha]
    cases pa with
    | none =>
      simp only [optP]
      walk_at "d"
      exact no rfl
    | some a =>
      obtain ⟨a1, a2⟩ := a
      simp only [optP]
      walk_at "d"
      refine .inl ⟨_, rfl, by omega, ?_⟩
      rw [hb]
      cases pb with
      | none =>
        simp only [optP]
        walk_at "d"
        exact no rfl
      | some b =>
        obtain ⟨b1, b2⟩ := b
        simp only [optP]
        walk_at "d"
        refine .inl ⟨_, rfl, by omega, ?_⟩
        rw [ha]
        simp only [optP]
        walk_at "d"
        refine .inl ⟨_, rfl, by omega, ?_⟩
        rw [hb]
        simp only [optP]
        walk_at "d"
        dsimp only at k
        rw [if_neg c3] at k
        exact k
end
theorem split_mem {x y z : Str} (h : z ∈ Txt.split x y) : z.length ≤ x.length := by
  unfold Txt.split at h
  split at h
  · rw [List.mem_singleton.mp h]; exact Nat.le_refl _
  · split at h
    · rw [List.mem_singleton.mp h]; exact Nat.le_refl _
    · unfold Builtin.Str.partsBetween at h
      obtain ⟨⟨i, j⟩, _, rfl⟩ := List.mem_map.mp h
      show (x.cps.extract i j).size ≤ x.cps.size
      rw [Array.size_extract]
      omega
noncomputable def eT3 {α β γ : Type} (a : Enc α) (b : Enc β) (c : Enc γ) (h : a.dep ≤ 15) (h' : b.dep ≤ 15) (h'' : c.dep ≤ 15) : Enc (α × β × γ) where
  d := fun p => .tuple [a.d p.1, b.d p.2.1, c.d p.2.2]
  dep := a.dep + b.dep + c.dep + 1
  small := by omega
  lay := fun p => by
    show ((a.d p.1).canLay0 && ((b.d p.2.1).canLay0 && ((c.d p.2.2).canLay0 && true))) = true
    rw [a.lay, b.lay, c.lay]; rfl
  depth := fun p => by
    have h1 := a.depth p.1
    have h2 := b.depth p.2.1
    have h3 := c.depth p.2.2
    simp only [PyData.depth, PyData.depthAll]
    omega
  eqv := fun p q => by
    show PyData.eqvAll [a.d p.1, b.d p.2.1, c.d p.2.2] [a.d q.1, b.d q.2.1, c.d q.2.2] = true ↔ p = q
    have h1 := a.eqv p.1 q.1
    have h2 := b.eqv p.2.1 q.2.1
    have h3 := c.eqv p.2.2 q.2.2
    simp only [PyData.eqvAll, Bool.and_eq_true, h1, h2, h3, and_true]
    exact ⟨fun ⟨x, y, z⟩ => Prod.ext x (Prod.ext y z), fun e => by rw [e]; exact ⟨rfl, rfl, rfl⟩⟩
noncomputable def eM : Enc Mk7 := eT3 (eT2 eInt eInt (by decide) (by decide)) (eT2 eInt eInt (by decide) (by decide)) eInt (by decide) (by decide) (by decide)
noncomputable def eOM : Enc (Option Mk7) where
  d := optM
  dep := eM.dep
  small := eM.small
  lay := fun p => by
    cases p with
    | none => rfl
    | some m => exact eM.lay m
  depth := fun p => by
    cases p with
    | none => exact Nat.zero_le _
    | some m => exact eM.depth m
  eqv := fun p q => by
    cases p with
    | none =>
      cases q with
      | none => exact ⟨fun _ => rfl, fun _ => rfl⟩
      | some m => exact ⟨fun h => (by cases h), fun h => (by cases h)⟩
    | some m =>
      cases q with
      | none => exact ⟨fun h => (by cases h), fun h => (by cases h)⟩
      | some m' => exact (eM.eqv m m').trans ⟨fun h => congrArg some h, fun h => by injection h⟩
section
variable {P : Program} {w : World} {K : PySem.W.Frag} {mg : Str → Option Value} {base : Heap} {A : Adr}
noncomputable def wMarks (C : Addr) : DW := fun ds Q X => (∃ x : Str, ds = [.str x] ∧ x.length ≤ 90000 ∧ ((Txt.split x (Str.ofString " ")).length ≤ 60 → (∀ z ∈ Txt.split x (Str.ofString " "), spotF z ≠ none) → Q (.own ((Txt.split x (Str.ofString " ")).map fun z => mD (spotD z)))) ∧ (60 < (Txt.split x (Str.ofString " ")).length ∨ (∃ z ∈ Txt.split x (Str.ofString " "), spotF z = none) → X C)) ∨ (∃ d, ds = [d] ∧ (∀ x, d ≠ .str x) ∧ X C)
theorem ok_read_marks (T : Txt K mg A) : FnOk P w K mg base (CXE P w) 5 A.a_read_marks A.d_read_marks ["text"] (spW K (wMarks A.x_NoText)) := by
  have G_check_text := ok_check_text (P := P) (w := w) (base := base) T
  have G_read_mark := ok_read_mark (P := P) (w := w) (base := base) T
  refine okW T.F_read_marks sc_read_marks (fun ds Q E h => ?_) (fun cdv Ar outer s H E hr => ?_)
  · rcases h with ⟨_, rfl, _⟩ | ⟨_, rfl, _⟩ <;> rfl
  refine ⟨_, (pss_cons (ps_expr (pe_call G_check_text (hr.mono (by decide)) rfl T.m_check_text T.F_check_text.kp T.b_check_text .nil pass_own (pa_cons (pv 0) pa_nil)))
      (pss_cons (ps_set (i := 1) sc_read_marks.nd rfl (Or.inl rfl) (pe_bm PySem.F.plainAttrs_str PySem.F.slot_str_split PySem.F.type_str_split mt_split (pv 0) (pa_cons pe_str pa_nil)))
      (pss_cons (ps_if (pt_cmpR op_gt (pe_callB (lenK (K := K) rfl) rfl T.n_len PySem.boot_len (pa_cons (pv 1) pa_nil)) (pe_glob rfl T.c_MOST_MARKS.choose_spec (show RelV (.int 60) _ from ⟨_, rfl⟩)) (nomark _)) (pss_one (ps_raise T.x_NoText hr.hd pass_own rfl (pa_cons pe_str pa_nil))) pss_nil)
      (pss_one (ps_ret (pe_lcE (E := E) (cap := [none]) (NC := ["word"]) rfl rfl rfl rfl leave_fly ⟨rfl, rfl, by decide +kernel, by decide +kernel, trivial, (fun _ h => nomatch h), rfl⟩ (pilK (K := K) rfl (pv 1)) (fun _ _ _ _ => (pg_name (i := 0) (show List.Nodup (["word"] : List Str) by decide) rfl (Or.inl rfl))) (fun _ _ _ _ => pts_nil) (fun _ _ _ _ => (pe_call G_read_mark (hr.mono (by decide)) rfl T.m_read_mark T.F_read_mark.kp T.b_read_mark .nil (pass_lc rfl rfl) (pa_cons (pv 0) pa_nil))))))))), _, (sv_seq (sv_expr (bv_ev (ev_call (av_cons (bv_var 0) av_nil))))
      (sv_seq (sv_setO 1 (ov_split (bv_var 0) (bv_ev ev_str)))
      (sv_seq (sv_if (tv_test (bv_ev (ev_op ro_b0 (bv_ev (ev_cb rb_len (av_cons (bv_var 1) av_nil))) (bv_ev ev_int)))) (sv_raise (ae_cons ev_str ae_nil) (by decide)) sv_next)
      (sv_retO (ov_lcX (ie_list (lv_var 1)) (gv_name 0) tv_yes (ev_call (av_cons (bv_var 0) av_nil)) (by decide) (by decide)))))), ?_⟩
  rintro ds Q X (⟨x, rfl, hx, k1, k2⟩ | ⟨d, rfl, hd, k⟩)
  · walk_at "s"
    refine ⟨.str x, rfl, fun _ => ?_, fun z => absurd rfl (z x)⟩
    walk_at "s"
    refine ⟨hx, by rw [blank_len]; rfl, ?_⟩
    have hl := split_le x (Str.ofString " ")
    walk_at "s"
    refine ite2 (fun c => ?_) (fun c => ?_)
    · exact k2 (.inl (by omega))
    · walk_at "d"
      refine lcX_map PyData.str mD (fun z => [spotD z]) (fun z => spotF z ≠ none) (Txt.split x (Str.ofString " ")) (by omega) (fun Q h => by
          walk_at "d"
          exact h) (fun z hz N acc hN => ?_) fun hall => ?_
      · have hzl := split_mem hz
        walk_at "d"
        refine .inl ⟨z, rfl, by omega, fun m hm => ?_, fun hn => k2 (.inr ⟨z, hz, hn⟩)⟩
        walk_at "d"
        have := hN (by rw [hm]; simp)
        rw [spotD_is hm] at this
        exact ⟨rfl, this⟩
      · rw [flat_single]
        have := k1 (by omega) hall
        rw [List.map_map]
        exact this
  · walk_at "s"
    exact ⟨d, rfl, fun ⟨x, e⟩ => absurd e (hd x), fun _ => k⟩
noncomputable def wRef (C : Addr) : DW := fun ds Q _ => ∃ (d : PyData) (b : Bool), ds = [d, .bool b] ∧ (b = true → ∀ (Q : Sl → Prop) (X : DX), X C → wMark C [d] Q X) ∧ (b = false → ∀ (Q : Sl → Prop) (X : DX), X C → wMarks C [d] Q X) ∧ Q (.dat (.bool true))
theorem ok_law_refused (T : Txt K mg A) : FnOk P w K mg base (CXE P w) 6 A.a_law_refused A.d_law_refused ["text", "one"] (spW K (wRef A.x_NoText)) := by
  have G_read_mark := ok_read_mark (P := P) (w := w) (base := base) T
  have G_read_marks := ok_read_marks (P := P) (w := w) (base := base) T
  refine okW T.F_law_refused sc_law_refused (fun ds Q E h => ?_) (fun cdv Ar outer s H E hr => ?_)
  · obtain ⟨_, _, rfl, _⟩ := h; rfl
  refine ⟨_, (pss_cons (ps_set (i := 2) sc_law_refused.nd rfl (Or.inl rfl) (pe_lst pa_nil))
      (pss_cons (ps_tryAs (i := 3) rfl rfl sc_law_refused.nd rfl rfl rfl (pssx_one (psx_if (pt_val (pv 1)) (pssx_one (psx_call G_read_mark (hr.mono (by decide)) rfl T.m_read_mark T.F_read_mark.kp T.b_read_mark (pa_cons (pv 0) pa_nil))) (pssx_one (psx_call G_read_marks (hr.mono (by decide)) rfl T.m_read_marks T.F_read_marks.kp T.b_read_marks (pa_cons (pv 0) pa_nil))))) (Or.inl ⟨rfl, T.x_MissError.mgx⟩) (fun x => (pss_cons (ps_set (i := 2) sc_law_refused.nd rfl (Or.inl rfl) (pe_lst (pa_cons (pe_callB (isiXK (K := K) rfl) rfl T.n_isinstance bt_isinstance (pa_cons (pv 3) (pa_cons (pe_glob rfl T.x_NoText.mgx (show RelV (.ref _) (.ref _) from rfl)) pa_nil))) (pa_cons (pe_callB (isiXK (K := K) rfl) rfl T.n_isinstance bt_isinstance (pa_cons (pv 3) (pa_cons (pe_bltn rfl T.n_ValueError bt_ValueError (show RelV (.ty "ValueError") (.type "ValueError") from rfl)) pa_nil))) (pa_cons (pe_callB (isiXK (K := K) rfl) rfl T.n_isinstance bt_isinstance (pa_cons (pv 3) (pa_cons (pe_glob rfl T.x_NoMarks.mgx (show RelV (.ref _) (.ref _) from rfl)) pa_nil))) (pa_cons (pe_callB (isiXK (K := K) rfl) rfl T.n_isinstance bt_isinstance (pa_cons (pv 3) (pa_cons (pe_glob rfl T.x_NoRow.mgx (show RelV (.ref _) (.ref _) from rfl)) pa_nil))) pa_nil))))))
      (pss_one (ps_set (i := 2) sc_law_refused.nd rfl (Or.inl rfl) (pe_op op_cat (pv 2) (pe_lst (pa_cons (pe_callB (isiXK (K := K) rfl) rfl T.n_isinstance bt_isinstance (pa_cons (pv 3) (pa_cons (pe_glob rfl T.x_NoName.mgx (show RelV (.ref _) (.ref _) from rfl)) pa_nil))) pa_nil))))))))
      (pss_one (ps_ret (pe_cmpR (eqK (K := K) rfl hr.units) (pv 2) (pe_lst (pa_cons pe_bl (pa_cons pe_bl (pa_cons pe_bl (pa_cons pe_bl (pa_cons pe_bl pa_nil)))))) (nomark _)))))), _, (sv_seq (sv_setO 2 (ov_lst ae_nil (by decide)))
      (sv_seq (sv_tryAs (i := 3) (sx_if (tv_b (bv_var 1)) (sx_call (av_cons (bv_var 0) av_nil)) (sx_call (av_cons (bv_var 0) av_nil))) (sv_seq (sv_setO 2 (ov_lst (ae_cons (ev_isX isi_ref T.x_NoText.ex T.xk_NoText T.k_NoText_NoText) (ae_cons (ev_isX isi_ty T.x_NoText.ex T.xk_NoText T.k_NoText_ValueError) (ae_cons (ev_isX isi_ref T.x_NoText.ex T.xk_NoText T.k_NoText_NoMarks) (ae_cons (ev_isX isi_ref T.x_NoText.ex T.xk_NoText T.k_NoText_NoRow) ae_nil)))) (by decide)))
      (sv_setO 2 (ov_cat (mv_var 2) (mv_ov (ov_lst (ae_cons (ev_isX isi_ref T.x_NoText.ex T.xk_NoText T.k_NoText_NoName) ae_nil) (by decide)))))))
      (sv_ret (bv_ev (ev_op ro_eqD (bv_var 2) (bv_ev (ev_ov (ov_lst (ae_cons ev_bl (ae_cons ev_bl (ae_cons ev_bl (ae_cons ev_bl (ae_cons ev_bl ae_nil))))) (by decide))))))))), ?_⟩
  rintro ds Q X ⟨d, b, rfl, h1, h2, k⟩
  walk_at "s"
  walk_at "s"
  have fin : ∀ (b : Bool), True := fun _ => trivial
  cases b with
  | true =>
    refine ite2 (fun _ => ?_) (fun c => absurd rfl c)
    refine h1 rfl _ _ ⟨T.e_NoText_MissError, ?_⟩
    walk_at "s"
    refine ⟨by decide, ?_⟩
    walk_at "d"
    refine ⟨List Bool, eList eBool (by decide), [true, true, false, false, false], [true, true, false, false, false], rfl, rfl, fun v hv => ?_⟩
    rw [hv.mpr rfl]
    exact k
  | false =>
    refine ite2 (fun c => absurd c (by decide)) (fun _ => ?_)
    refine h2 rfl _ _ ⟨T.e_NoText_MissError, ?_⟩
    walk_at "s"
    refine ⟨by decide, ?_⟩
    walk_at "d"
    refine ⟨List Bool, eList eBool (by decide), [true, true, false, false, false], [true, true, false, false, false], rfl, rfl, fun v hv => ?_⟩
    rw [hv.mpr rfl]
    exact k
noncomputable def wGood : DW := fun ds Q _ => ∃ m : Mk7, ds = [mD m, mD m] ∧ Q (.dat (.bool true))
theorem ok_law_good (T : Txt K mg A) : FnOk P w K mg base (CXE P w) 1 A.a_law_good A.d_law_good ["found", "due"] (spW K wGood) := by
  refine okW T.F_law_good sc_law_good (fun ds Q E h => ?_) (fun cdv Ar outer s H E hr => ?_)
  · obtain ⟨_, rfl, _⟩ := h; rfl
  refine ⟨_, (pss_cons (ps_if (PW.pt (pw_or (pt_not (pt_val (pe_callB (isiDK (K := K) rfl) rfl T.n_isinstance bt_isinstance (pa_cons (pv 0) (pa_cons (pe_bltn rfl T.n_tuple bt_tuple (show RelV (.ty "tuple") (.type "tuple") from rfl)) pa_nil))))) (pw_or (pt_cmpR (neK (K := K) rfl hr.units) (pv 0) (pv 1) (nomark _)) (pw_or (pt_not (pt_val (pe_callB (isiDK (K := K) rfl) rfl T.n_isinstance bt_isinstance (pa_cons (pe_ix (ixtK (K := K) rfl) (pv 0) pe_int (fun _ _ => rfl)) (pa_cons (pe_bltn rfl T.n_int bt_int (show RelV (.ty "int") (.type "int") from rfl)) pa_nil))))) (pw_or1 (pt_val (pe_callB (isiDK (K := K) rfl) rfl T.n_isinstance bt_isinstance (pa_cons (pe_ix (ixtK (K := K) rfl) (pv 0) pe_int (fun _ _ => rfl)) (pa_cons (pe_bltn rfl T.n_bool bt_bool (show RelV (.ty "bool") (.type "bool") from rfl)) pa_nil))))))))) (pss_one (ps_ret pe_bl)) pss_nil)
      (pss_cons (ps_for PassesOwn.leaving rfl (pilK (K := K) rfl (pe_lst (pa_cons (pe_ix (ixtK (K := K) rfl) (pv 0) pe_int (fun _ _ => rfl)) (pa_cons (pe_ix (ixtK (K := K) rfl) (pv 0) pe_int (fun _ _ => rfl)) pa_nil)))) (pg_name (i := 2) sc_law_good.nd rfl (Or.inl rfl))
        (pss_one (ps_if (PW.pt (pw_or (pt_not (pt_val (pe_callB (isiDK (K := K) rfl) rfl T.n_isinstance bt_isinstance (pa_cons (pv 2) (pa_cons (pe_bltn rfl T.n_tuple bt_tuple (show RelV (.ty "tuple") (.type "tuple") from rfl)) pa_nil))))) (pw_or (pt_not (pt_val (pe_callB (isiDK (K := K) rfl) rfl T.n_isinstance bt_isinstance (pa_cons (pe_ix (ixtK (K := K) rfl) (pv 2) pe_int (fun _ _ => rfl)) (pa_cons (pe_bltn rfl T.n_int bt_int (show RelV (.ty "int") (.type "int") from rfl)) pa_nil))))) (pw_or (pt_val (pe_callB (isiDK (K := K) rfl) rfl T.n_isinstance bt_isinstance (pa_cons (pe_ix (ixtK (K := K) rfl) (pv 2) pe_int (fun _ _ => rfl)) (pa_cons (pe_bltn rfl T.n_bool bt_bool (show RelV (.ty "bool") (.type "bool") from rfl)) pa_nil)))) (pw_or1 (pt_val (pe_callB (isiDK (K := K) rfl) rfl T.n_isinstance bt_isinstance (pa_cons (pe_ix (ixtK (K := K) rfl) (pv 2) pe_int (fun _ _ => rfl)) (pa_cons (pe_bltn rfl T.n_bool bt_bool (show RelV (.ty "bool") (.type "bool") from rfl)) pa_nil))))))))) (pss_one (ps_ret pe_bl)) pss_nil)))
      (pss_one (ps_ret pe_bl)))), _, (sv_seq (sv_if (tv_or (tv_not (tv_b (bv_ev (ev_isi (by decide) (bv_var 0))))) (tv_or (tv_test (bv_ev (ev_op ro_neD (bv_var 0) (bv_var 1)))) (tv_or (tv_not (tv_b (bv_ev (ev_isi (by decide) (bv_ev (ev_ixk 2 (ev_var 0))))))) (tv_b (bv_ev (ev_isi (by decide) (bv_ev (ev_ixk 2 (ev_var 0))))))))) (sv_ret (bv_ev ev_bl)) sv_next)
      (sv_seq (sv_for (is_list (ev_ov (ov_lst (ae_cons (ev_ixk 0 (ev_var 0)) (ae_cons (ev_ixk 1 (ev_var 0)) ae_nil)) (by decide)))) (gv_name 2)
        (sv_if (tv_or (tv_not (tv_b (bv_ev (ev_isi (by decide) (bv_var 2))))) (tv_or (tv_not (tv_b (bv_ev (ev_isi (by decide) (bv_ev (ev_ixk 0 (ev_var 2))))))) (tv_or (tv_b (bv_ev (ev_isi (by decide) (bv_ev (ev_ixk 0 (ev_var 2)))))) (tv_b (bv_ev (ev_isi (by decide) (bv_ev (ev_ixk 1 (ev_var 2))))))))) (sv_ret (bv_ev ev_bl)) sv_next))
      (sv_ret (bv_ev ev_bl)))), ?_⟩
  rintro ds Q X ⟨m, rfl, k⟩
  have em : mD m = .tuple [.tuple [.int m.1.1, .int m.1.2], .tuple [.int m.2.1.1, .int m.2.1.2], .int m.2.2] := rfl
  have em2 : mD m = eM.d m := rfl
  obtain ⟨⟨a, b⟩, ⟨c, d⟩, e⟩ := m
  rw [em]
  walk_at "s"
  refine ⟨Mk7, eM, ((a, b), (c, d), e), ((a, b), (c, d), e), rfl, rfl, fun v hv => ?_⟩
  rw [hv.mpr rfl]
  walk_at "d"
  refine ite2 (fun c => absurd c (by decide)) (fun _ => ?_)
  refine ite2 (fun c => absurd c (by decide)) (fun _ => ?_)
  refine seq_mk (for_map (fun p : Int × Int => PyData.tuple [.int p.1, .int p.2]) [(a, b), (c, d)] (fun Q h => by
      walk_at "d"
      exact h) (fun i δ => ∃ s2 : Option Sl, δ = [some (.dat (.tuple [.tuple [.int a, .int b], .tuple [.int c, .int d], .int e])), some (.dat (.tuple [.tuple [.int a, .int b], .tuple [.int c, .int d], .int e])), s2]) ⟨none, rfl⟩ ?_ ?_)
  · rintro i ⟨p, q⟩ δ hi ⟨s2, rfl⟩
    walk_at "d"
    refine ite2 (fun c => absurd c (by decide)) (fun _ => ?_)
    refine ite2 (fun c => absurd c (by decide)) (fun _ => ?_)
    refine ite2 (fun c => absurd c (by decide)) (fun _ => ?_)
    refine ite2 (fun c => absurd c (by decide)) (fun _ => ?_)
    exact ⟨_, rfl⟩
  · rintro δ ⟨s2, rfl⟩
    walk_at "d"
    exact k
noncomputable def wWords : DW := fun ds Q _ => ∃ ws : List Str, ds = [.list (ws.map .str)] ∧ (∀ z ∈ ws, z.length ≤ 90000) ∧ Q (.dat (.bool true))
theorem ok_law_words (T : Txt K mg A) : FnOk P w K mg base (CXE P w) 7 A.a_law_words A.d_law_words ["words"] (spW K wWords) := by
  have G_read_mark := ok_read_mark (P := P) (w := w) (base := base) T
  have G_law_spot := ok_law_spot (P := P) (w := w) (base := base) T
  have G_law_refused := ok_law_refused (P := P) (w := w) (base := base) T
  have G_law_good := ok_law_good (P := P) (w := w) (base := base) T
  refine okW T.F_law_words sc_law_words (fun ds Q E h => ?_) (fun cdv Ar outer s H E hr => ?_)
  · obtain ⟨_, rfl, _⟩ := h; rfl
  refine ⟨_, (pss_cons (ps_for PassesOwn.leaving rfl (pilK (K := K) rfl (pv 0)) (pg_name (i := 1) sc_law_words.nd rfl (Or.inl rfl))
        (pss_cons (ps_set (i := 2) sc_law_words.nd rfl (Or.inl rfl) (pe_call G_law_spot (hr.mono (by decide)) rfl T.m_law_spot T.F_law_spot.kp T.b_law_spot .nil passE0 (pa_cons (pv 1) pa_nil)))
      (pss_one (ps_if (pt_cmpR op_isN (pv 2) pe_non (nomark _)) (pss_one (ps_if (pt_not (pt_val (pe_call G_law_refused (hr.mono (by decide)) rfl T.m_law_refused T.F_law_refused.kp T.b_law_refused .nil passE0 (pa_cons (pv 1) (pa_cons pe_bl pa_nil))))) (pss_one (ps_ret pe_bl)) pss_nil)) (pss_one (ps_if (pt_not (pt_val (pe_call G_law_good (hr.mono (by decide)) rfl T.m_law_good T.F_law_good.kp T.b_law_good .nil passE0 (pa_cons (pe_call G_read_mark (hr.mono (by decide)) rfl T.m_read_mark T.F_read_mark.kp T.b_read_mark .nil passE0 (pa_cons (pv 1) pa_nil)) (pa_cons (pv 2) pa_nil))))) (pss_one (ps_ret pe_bl)) pss_nil))))))
      (pss_one (ps_ret pe_bl))), _, (sv_seq (sv_for (is_list (ev_var 0)) (gv_name 1)
        (sv_seq (sv_asg (ev_call0 (av_cons (bv_var 1) av_nil)) (gv_name 2))
      (sv_if (tv_test (bv_ev (ev_op ro_isN (bv_var 2) (bv_ev ev_non)))) (sv_if (tv_not (tv_b (bv_ev (ev_call0 (av_cons (bv_var 1) (av_cons (bv_ev ev_bl) av_nil)))))) (sv_ret (bv_ev ev_bl)) sv_next) (sv_if (tv_not (tv_b (bv_ev (ev_call0 (av_cons (bv_ev (ev_call0 (av_cons (bv_var 1) av_nil))) (av_cons (bv_var 2) av_nil)))))) (sv_ret (bv_ev ev_bl)) sv_next))))
      (sv_ret (bv_ev ev_bl))), ?_⟩
  rintro ds Q X ⟨ws, rfl, hws, k⟩
  refine seq_mk (for_map PyData.str ws (fun Q h => by
      walk_at "d"
      exact h) (fun i δ => ∃ s1 s2 : Option Sl, δ = [some (.dat (.list (ws.map .str))), s1, s2]) ⟨none, none, rfl⟩ ?_ ?_)
  · rintro i z δ hi ⟨s1, s2, rfl⟩
    have hz := hws z (List.mem_of_getElem? hi)
    walk_at "s"
    refine ⟨z, rfl, by omega, ?_⟩
    obtain ⟨p, hp⟩ : ∃ p, spotF z = p := ⟨_, rfl⟩
    rw [hp]
    cases p with
    | none =>
      simp only [optM]
      walk_at "d"
      refine ⟨_, true, rfl, fun _ Q X hX => .inl ⟨z, rfl, by omega, (fun m hm => by rw [hp] at hm; cases hm), fun _ => hX⟩, fun c => (by cases c), ?_⟩
      walk_at "d"
      exact ⟨_, _, rfl⟩
    | some m =>
      simp only [optM]
      have em : mD m = .tuple [.tuple [.int m.1.1, .int m.1.2], .tuple [.int m.2.1.1, .int m.2.1.2], .int m.2.2] := rfl
      rw [em]
      walk_at "d"
      refine .inl ⟨z, rfl, by omega, fun m' hm => ?_, fun hn => by rw [hp] at hn; cases hn⟩
      rw [hp] at hm
      cases hm
      rw [em]
      walk_at "d"
      refine ⟨m, rfl, ?_⟩
      walk_at "d"
      exact ⟨_, _, rfl⟩
  · rintro δ ⟨s1, s2, rfl⟩
    walk_at "d"
    exact k
noncomputable def wMk : DW := fun ds Q _ => ∃ c o : Int, ds = [.int c, .int o] ∧ Bg 1048577 c ∧ Bg 1048577 o ∧ ∀ m : Mk7, Sm7 m → Q (.dat (mD m))
theorem ok_law_mark (T : Txt K mg A) : FnOk P w K mg base (CXE P w) 3 A.a_law_mark A.d_law_mark ["cell", "other"] (spW K wMk) := by
  have G_law_great := ok_law_great (P := P) (w := w) (base := base) T
  have G_law_lowest := ok_law_lowest (P := P) (w := w) (base := base) T
  refine okW T.F_law_mark sc_law_mark (fun ds Q E h => ?_) (fun cdv Ar outer s H E hr => ?_)
  · obtain ⟨_, _, rfl, _⟩ := h; rfl
  refine ⟨_, (pss_cons (ps_set (i := 2) sc_law_mark.nd rfl (Or.inl rfl) (pe_call G_law_lowest (hr.mono (by decide)) rfl T.m_law_lowest T.F_law_lowest.kp T.b_law_lowest .nil passE0 (pa_cons (pe_call G_law_great (hr.mono (by decide)) rfl T.m_law_great T.F_law_great.kp T.b_law_great .nil passE0 (pa_cons (pv 0) pa_nil)) (pa_cons (pe_op op_add pe_int (pe_op op_mod (pv 1) pe_int)) pa_nil))))
      (pss_cons (ps_set (i := 3) sc_law_mark.nd rfl (Or.inl rfl) (pe_call G_law_lowest (hr.mono (by decide)) rfl T.m_law_lowest T.F_law_lowest.kp T.b_law_lowest .nil passE0 (pa_cons (pe_call G_law_great (hr.mono (by decide)) rfl T.m_law_great T.F_law_great.kp T.b_law_great .nil passE0 (pa_cons (pe_op op_fdivB (pv 1) pe_int) pa_nil)) (pa_cons (pe_op op_add pe_int (pe_op op_mod (pe_callB call_abs rfl T.n_abs bt_abs (pa_cons (pe_call G_law_great (hr.mono (by decide)) rfl T.m_law_great T.F_law_great.kp T.b_law_great .nil passE0 (pa_cons (pe_op op_fdivB (pv 0) pe_int) pa_nil)) pa_nil)) (pe_op op_pow pe_int pe_int))) pa_nil))))
      (pss_one (ps_ret (pe_tup (pa_cons (pv 2) (pa_cons (pv 3) (pa_cons (pe_op op_add pe_int (pe_op op_mod (pe_callB call_abs rfl T.n_abs bt_abs (pa_cons (pe_call G_law_great (hr.mono (by decide)) rfl T.m_law_great T.F_law_great.kp T.b_law_great .nil passE0 (pa_cons (pe_op op_add (pv 1) (pe_op op_mod (pv 0) pe_int)) pa_nil)) pa_nil)) (pe_op op_pow pe_int pe_int))) pa_nil)))))))), _, (sv_seq (sv_asg (ev_call0 (av_cons (bv_ev (ev_call0 (av_cons (bv_var 0) av_nil))) (av_cons (bv_ev (ev_op ro_i0 (bv_ev ev_int) (bv_ev (ev_mdk (k := 7) (by decide) (bv_var 1) ev_int)))) av_nil))) (gv_name 2))
      (sv_seq (sv_asg (ev_call0 (av_cons (bv_ev (ev_call0 (av_cons (bv_ev (ev_dvk (k := 7) (cdiv (by decide +kernel)) (bv_var 1) ev_int)) av_nil))) (av_cons (bv_ev (ev_op ro_i0 (bv_ev ev_int) (bv_ev (ev_mdk (k := 1000000000000000000000000000000000000000) (by decide) (bv_ev (ev_cb rb_abs (av_cons (bv_ev (ev_call0 (av_cons (bv_ev (ev_dvk (k := 5) (cdiv (by decide +kernel)) (bv_var 0) ev_int)) av_nil))) av_nil))) (ev_k (v := 1000000000000000000000000000000000000000) (ev_op ro_i (bv_ev ev_int) (bv_ev ev_int)) (fun ex δ Q h => ⟨cpow (by decide +kernel), Eq.mpr (congrArg (fun z => Q (.int z)) (by decide +kernel : ((10 ^ Int.toNat 39) : Int) = 1000000000000000000000000000000000000000)) h⟩)))))) av_nil))) (gv_name 3))
      (sv_ret (bv_ev (ev_tup (ae_cons (ev_var 2) (ae_cons (ev_var 3) (ae_cons (ev_op ro_i0 (bv_ev ev_int) (bv_ev (ev_mdk (k := 1000000000000000000000000000000000000000) (by decide) (bv_ev (ev_cb rb_abs (av_cons (bv_ev (ev_call0 (av_cons (bv_ev (ev_op ro_i0 (bv_var 1) (bv_ev (ev_mdk (k := 11) (by decide) (bv_var 0) ev_int)))) av_nil))) av_nil))) (ev_k (v := 1000000000000000000000000000000000000000) (ev_op ro_i (bv_ev ev_int) (bv_ev ev_int)) (fun ex δ Q h => ⟨cpow (by decide +kernel), Eq.mpr (congrArg (fun z => Q (.int z)) (by decide +kernel : ((10 ^ Int.toNat 39) : Int) = 1000000000000000000000000000000000000000)) h⟩))))) ae_nil))) (by decide)))))), ?_⟩
  rintro ds Q X ⟨c, o, rfl, hc, ho, k⟩
  walk_at "s"
  refine ⟨c, rfl, hc.mono (by decide), fun v1 h1 => ?_⟩
  walk_at "d"
  refine ⟨v1, 1 + o % 7, rfl, h1, by omega, by omega, fun p1 q1 hp1 hq1 => ?_⟩
  walk_at "d"
  refine ?_
  walk_at "s"
  refine ⟨_, rfl, (ho.div 7 (by decide)).mono (by decide), fun v2 h2 => ?_⟩
  walk_at "d"
  refine ⟨_, rfl, (hc.div 5 (by decide)).mono (by decide), fun v3 h3 => ?_⟩
  walk_at "d"
  refine ⟨v2, _, rfl, h2, ?_, ?_, fun p2 q2 hp2 hq2 => ?_⟩
  · generalize (if v3 < 0 then -v3 else v3) = z
    omega
  · generalize (if v3 < 0 then -v3 else v3) = z
    omega
  walk_at "d"
  refine ?_
  walk_at "d"
  refine ⟨_, rfl, ?_, fun v4 h4 => ?_⟩
  · exact ((ho.mono (by decide)).add (Bg.small (n := 1048577) (by omega) (by decide))).mono (by decide)
  walk_at "d"
  refine k ((p1, q1), (p2, q2), _) ⟨hp1, hq1, hp2, hq2, ?_⟩
  show Int.natAbs (1 + (if v4 < 0 then -v4 else v4) % 1000000000000000000000000000000000000000) < _
  generalize (if v4 < 0 then -v4 else v4) = z
  omega
noncomputable def wMks : DW := fun ds Q _ => ∃ ns : List Int, ds = [.list (ns.map .int)] ∧ ns.length ≤ 63 ∧ (∀ v ∈ ns, Bg 1048577 v) ∧ ∀ ms : List Mk7, 1 ≤ ms.length → ms.length ≤ 61 → (∀ m ∈ ms, Sm7 m) → Q (.own (ms.map mD))
theorem ok_law_marks (T : Txt K mg A) : FnOk P w K mg base (CXE P w) 4 A.a_law_marks A.d_law_marks ["script"] (spW K wMks) := by
  have G_law_mark := ok_law_mark (P := P) (w := w) (base := base) T
  have G_law_cell := ok_law_cell (P := P) (w := w) (base := base) T
  refine okW T.F_law_marks sc_law_marks (fun ds Q E h => ?_) (fun cdv Ar outer s H E hr => ?_)
  · obtain ⟨_, rfl, _⟩ := h; rfl
  refine ⟨_, (pss_cons (ps_set (i := 1) sc_law_marks.nd rfl (Or.inr rfl) (pe_lst pa_nil))
      (pss_cons (ps_for PassesOwn.leaving rfl (pi_range3 rfl T.n_range (pa_cons pe_int (pa_cons (pe_callB (call_max2 rfl) rfl T.n_max bt_max (pa_cons pe_int (pa_cons (pe_callB (call_min2 rfl) rfl T.n_min bt_min (pa_cons (pe_callB (lenK (K := K) rfl) rfl T.n_len PySem.boot_len (pa_cons (pv 0) pa_nil)) (pa_cons pe_int pa_nil))) pa_nil))) (pa_cons pe_int pa_nil)))) (pg_name (i := 2) sc_law_marks.nd rfl (Or.inl rfl))
        (pss_one (ps_expr (pe_bm PySem.F.plainAttrs_list PySem.F.slot_list_append PySem.F.type_list_append mt_append (pv 1) (pa_cons (pe_call G_law_mark (hr.mono (by decide)) rfl T.m_law_mark T.F_law_mark.kp T.b_law_mark .nil passE0 (pa_cons (pe_call G_law_cell (hr.mono (by decide)) rfl T.m_law_cell T.F_law_cell.kp T.b_law_cell .nil passE0 (pa_cons (pv 0) (pa_cons (pv 2) pa_nil))) (pa_cons (pe_call G_law_cell (hr.mono (by decide)) rfl T.m_law_cell T.F_law_cell.kp T.b_law_cell .nil passE0 (pa_cons (pv 0) (pa_cons (pe_op op_add (pv 2) pe_int) pa_nil))) pa_nil))) pa_nil)))))
      (pss_cons (ps_set (i := 3) sc_law_marks.nd rfl (Or.inl rfl) (pe_op op_mod (pe_call G_law_cell (hr.mono (by decide)) rfl T.m_law_cell T.F_law_cell.kp T.b_law_cell .nil passE0 (pa_cons (pv 0) (pa_cons pe_int pa_nil))) pe_int))
      (pss_cons (ps_if (pt_cmpR op_lt (pv 3) pe_int (nomark _)) (pss_one (ps_set (i := 1) sc_law_marks.nd rfl (Or.inr rfl) (pe_lc (cap := [none, some 1]) (NC := ["k", "some"]) rfl ⟨rfl, rfl, by decide +kernel, by decide +kernel, ⟨⟨_, rfl, rfl, rfl, rfl, rfl⟩, trivial⟩, (List.forall_mem_cons.2 ⟨rfl, (fun _ h => nomatch h)⟩), rfl⟩ (pi_range1 rfl T.n_range (pa_cons (pe_op op_add pe_int (pv 3)) pa_nil)) (fun _ _ _ _ => (pg_name (i := 0) (show List.Nodup (["k", "some"] : List Str) by decide) rfl (Or.inl rfl))) (fun _ _ _ _ => pts_nil) (fun _ _ _ _ => (pe_ix (ixlK (K := K) rfl) (pv 1) (pe_op op_mod (pv 0) (pe_callB (lenK (K := K) rfl) rfl T.n_len PySem.boot_len (pa_cons (pv 1) pa_nil))) (fun _ _ => rfl)))))) pss_nil)
      (pss_one (ps_ret (pv 1))))))), _, (sv_seq (sv_setO 1 (ov_lst ae_nil (by decide)))
      (sv_seq (sv_for (is_rng3 (av_cons (bv_ev ev_int) (av_cons (bv_ev (ev_cb rb_max (av_cons (bv_ev ev_int) (av_cons (bv_ev (ev_cb rb_min (av_cons (bv_ev (ev_cb rb_len (av_cons (bv_var 0) av_nil))) (av_cons (bv_ev ev_int) av_nil)))) av_nil)))) (av_cons (bv_ev ev_int) av_nil)))) (gv_name 2)
        (sv_app 1 (ev_call0 (av_cons (bv_ev (ev_call0 (av_cons (bv_var 0) (av_cons (bv_var 2) av_nil)))) (av_cons (bv_ev (ev_call0 (av_cons (bv_var 0) (av_cons (bv_ev (ev_op ro_i0 (bv_var 2) (bv_ev ev_int))) av_nil)))) av_nil)))))
      (sv_seq (sv_asg (ev_mdk (k := 12) (by decide) (bv_ev (ev_call0 (av_cons (bv_var 0) (av_cons (bv_ev ev_int) av_nil)))) ev_int) (gv_name 3))
      (sv_seq (sv_if (tv_test (bv_ev (ev_op ro_b0 (bv_var 3) (bv_ev ev_int)))) (sv_setO 1 (ov_lc (IvS.e (is_rng1 (av_cons (bv_ev (ev_op ro_i0 (bv_ev ev_int) (bv_var 3))) av_nil))) (gv_name 0) tv_yes (ev_ixl (lv_var 1) (bv_ev (ev_op ro_i (bv_var 0) (bv_ev (ev_cb rb_len (av_cons (bv_var 1) av_nil)))))) (by decide) (by decide))) sv_next)
      (sv_retV 1))))), ?_⟩
  rintro ds Q X ⟨ns, rfl, hl, hb, k⟩
  walk_at "s"
  obtain ⟨e, he, e1, e2⟩ : ∃ e : Int, (if (if 62 < (ns.length : Int) then 62 else (ns.length : Int)) > 4 then if 62 < (ns.length : Int) then 62 else (ns.length : Int) else 4) = e ∧ 4 ≤ e ∧ e ≤ 62 := ⟨_, rfl, by (repeat' split) <;> omega, by (repeat' split) <;> omega⟩
  obtain ⟨n, hn, hn1, hn2⟩ : ∃ n : Nat, Builtin.Range.rangeSize 2 e 2 = (n : Int) ∧ 1 ≤ n ∧ n ≤ 30 := by
    refine ⟨(Builtin.Range.rangeSize 2 e 2).toNat, ?_⟩
    unfold Builtin.Range.rangeSize
    rw [if_pos (by decide), if_pos (by omega)]
    omega
  refine seq_mk (for_rng (lo := 2) (st := 2) (n := n) (fun Q h => by
      walk_at "d"
      rw [he]
      exact ⟨n, ⟨by decide, by decide, rng_small (by decide) ⟨by omega, by omega⟩ (by decide)⟩, hn, h⟩) (fun i δ => ∃ (ms : List Mk7) (s2 : Option Sl), δ = [some (.dat (.list (ns.map .int))), some (.own (ms.map mD)), s2, none] ∧ ms.length = i ∧ ∀ m ∈ ms, Sm7 m) ⟨[], none, rfl, rfl, by simp⟩ ?_ ?_)
  · rintro i δ hi ⟨ms, s2, rfl, hms, hsm⟩
    obtain ⟨kk, hk⟩ : ∃ kk : Int, 2 + (i : Int) * 2 = kk := ⟨_, rfl⟩
    rw [hk]
    walk_at "d"
    refine ⟨ns, kk, rfl, hb, by omega, by omega, fun v1 h1 => ?_⟩
    walk_at "d"
    refine ⟨ns, kk + 1, rfl, hb, by omega, by omega, fun v2 h2 => ?_⟩
    walk_at "d"
    refine ⟨v1, v2, rfl, h1, h2, fun m hm => ?_⟩
    walk_at "d"
    refine ⟨rfl, by omega, ms ++ [m], _, by rw [List.map_append]; rfl, by simp [hms], fun z hz => ?_⟩
    rcases List.mem_append.mp hz with h | h
    · exact hsm z h
    · rw [List.mem_singleton.mp h]; exact hm
  · rintro δ ⟨ms, s2, rfl, hms, hsm⟩
    walk_at "s"
    refine ⟨ns, 0, rfl, hb, by omega, by omega, fun v h => ?_⟩
    walk_at "d"
    refine ?_
    walk_at "s"
    refine ite2 (fun c => ?_) (fun c => ?_)
    · obtain ⟨mm, hmm⟩ : ∃ mm : Nat, (60 + v % 12).toNat = mm := ⟨_, rfl⟩
      refine lc_map (fun i : Nat => PyData.int (0 + (i : Int) * 1)) mD (fun i => [ms.getD (i % ms.length) ((0, 0), (0, 0), 0)]) (List.range mm) (by rw [List.length_range]; omega) (fun Q h => by
          walk_at "d"
          rw [hmm]
          exact ⟨⟨by omega, by omega⟩, h⟩) (fun i hi N acc hN => ?_) ?_
      · walk_at "d"
        have hlt : i % ms.length < ms.length := Nat.mod_lt _ (by omega)
        refine ⟨by omega, mD (ms.getD (i % ms.length) ((0, 0), (0, 0), 0)), ?_, hN⟩
        have ei : (0 + (i : Int) * 1) % (ms.length : Int) = ((i % ms.length : Nat) : Int) := by rw [Int.zero_add, Int.mul_one]; rfl
        rw [List.getD_eq_getElem?_getD, List.getElem?_eq_getElem hlt]
        first | rw [ei] | skip
        exact atI_nat (by rw [List.getElem?_map, List.getElem?_eq_getElem hlt]; rfl)
      · rw [flat_single]
        walk_at "d"
        refine k _ (by simp; omega) (by simp; omega) fun m hm => ?_
        obtain ⟨i, _, rfl⟩ := List.mem_map.mp hm
        have hlt : i % ms.length < ms.length := Nat.mod_lt _ (by omega)
        rw [List.getD_eq_getElem?_getD, List.getElem?_eq_getElem hlt]
        exact hsm _ (List.getElem_mem hlt)
    · walk_at "d"
      exact k ms (by omega) (by omega) hsm
noncomputable def wChanged : DW := fun ds Q _ => ∃ (x : Str) (c : Int), ds = [.str x, .int c] ∧ 1 ≤ x.length ∧ x.length ≤ 40000 ∧ 0 ≤ c ∧ c < 10 ^ 30 ∧ ∀ z : Str, z.length ≤ 90000 → Q (.dat (.str z))
theorem ok_law_changed (T : Txt K mg A) : FnOk P w K mg base (CXE P w) 2 A.a_law_changed A.d_law_changed ["text", "cell"] (spW K wChanged) := by
  have G_law_sign := ok_law_sign (P := P) (w := w) (base := base) T
  refine okW T.F_law_changed sc_law_changed (fun ds Q E h => ?_) (fun cdv Ar outer s H E hr => ?_)
  · obtain ⟨_, _, rfl, _⟩ := h; rfl
  refine ⟨_, (pss_cons (ps_set (i := 2) sc_law_changed.nd rfl (Or.inl rfl) (pe_op op_mod (pv 1) pe_int))
      (pss_cons (ps_set (i := 1) sc_law_changed.nd rfl (Or.inl rfl) (pe_op op_fdivB (pv 1) pe_int))
      (pss_cons (ps_set (i := 3) sc_law_changed.nd rfl (Or.inl rfl) (pe_op op_mod (pv 1) (pe_callB call_len_str rfl T.n_len PySem.boot_len (pa_cons (pv 0) pa_nil))))
      (pss_cons (ps_set (i := 4) sc_law_changed.nd rfl (Or.inl rfl) (pe_call G_law_sign (hr.mono (by decide)) rfl T.m_law_sign T.F_law_sign.kp T.b_law_sign .nil passE0 (pa_cons (pe_op op_fdivB (pv 1) (pe_callB call_len_str rfl T.n_len PySem.boot_len (pa_cons (pv 0) pa_nil))) pa_nil)))
      (pss_cons (ps_if (pt_cmpR op_eq (pv 2) pe_int (nomark _)) (pss_one (ps_ret (pe_op op_add_str (pe_op op_add_str (pe_slice sl_str (pv 0) po_none (po_some (pv 3))) (pv 4)) (pe_slice sl_str (pv 0) (po_some (pv 3)) po_none)))) pss_nil)
      (pss_cons (ps_if (pt_cmpR op_eq (pv 2) pe_int (nomark _)) (pss_one (ps_ret (pe_op op_add_str (pe_slice sl_str (pv 0) po_none (po_some (pv 3))) (pe_slice sl_str (pv 0) (po_some (pe_op op_add (pv 3) pe_int)) po_none)))) pss_nil)
      (pss_cons (ps_if (pt_cmpR op_eq (pv 2) pe_int (nomark _)) (pss_one (ps_ret (pe_op op_add_str (pe_op op_add_str (pe_slice sl_str (pv 0) po_none (po_some (pv 3))) (pv 4)) (pe_slice sl_str (pv 0) (po_some (pe_op op_add (pv 3) pe_int)) po_none)))) pss_nil)
      (pss_cons (ps_ifRep (i := 2) (j := 0) rfl rfl (Or.inl rfl) (Or.inl rfl) (p2_str (by decide +kernel) (by decide +kernel)))
      (pss_cons (ps_if (pt_cmpR op_eq (pv 2) pe_int (nomark _)) (pss_one (ps_ret (pe_ix (ixlK (K := K) rfl) (pe_lst (pa_cons (pe_op op_add_str pe_str (pv 0)) (pa_cons (pe_op op_add_str (pv 0) pe_str) pa_nil))) (pe_op op_mod (pv 1) pe_int) (fun _ _ => rfl)))) pss_nil)
      (pss_cons (ps_if (pt_cmpR op_eq (pv 2) pe_int (nomark _)) (pss_one (ps_ret (pe_op op_add_str (pe_slice sl_str (pv 0) po_none (po_some (pe_op op_add (pe_bm PySem.F.plainAttrs_str PySem.F.slot_str_rfind PySem.F.type_str_rfind mt_rfind (pv 0) (pa_cons pe_str pa_nil)) pe_int))) (pe_ix (ixlK (K := K) rfl) (pe_lst (pa_cons pe_str (pa_cons pe_str (pa_cons pe_str (pa_cons pe_str (pa_cons pe_str (pa_cons pe_str pa_nil))))))) (pe_op op_mod (pv 1) pe_int) (fun _ _ => rfl))))) pss_nil)
      (pss_cons (ps_ifRep (i := 2) (j := 0) rfl rfl (Or.inl rfl) (Or.inl rfl) (p2_ix (xs := ["::", "**", " * ", ""]) ⟨⟨_, _, rfl⟩, rfl, ⟨⟨_, _, rfl⟩, rfl, ⟨⟨_, _, rfl⟩, rfl, ⟨⟨_, _, rfl⟩, rfl, trivial⟩⟩⟩⟩ (by decide) (by decide +kernel) (pe_op op_mod (pv 1) pe_int) (fun _ _ => rfl)))
      (pss_one (ps_ret (pv 0)))))))))))))), _, (sv_seq (sv_asg (ev_mdk (k := 16) (by decide) (bv_var 1) ev_int) (gv_name 2))
      (sv_seq (sv_asg (ev_dvk (k := 16) (cdiv (by decide +kernel)) (bv_var 1) ev_int) (gv_name 1))
      (sv_seq (sv_asg (ev_op ro_i (bv_var 1) (bv_ev (ev_cb rb_lens (av_cons (bv_var 0) av_nil)))) (gv_name 3))
      (sv_seq (sv_asg (ev_call0 (av_cons (bv_ev (ev_op ro_i (bv_var 1) (bv_ev (ev_cb rb_lens (av_cons (bv_var 0) av_nil))))) av_nil)) (gv_name 4))
      (sv_seq (sv_if (tv_test (bv_ev (ev_op ro_eq (bv_var 2) (bv_ev ev_int)))) (sv_ret (bv_ev (ev_op ro_cats (bv_ev (ev_op ro_cats (bv_ev (ev_slS (bv_var 0) op_no (op_part (bv_var 3)))) (bv_var 4))) (bv_ev (ev_slS (bv_var 0) (op_part (bv_var 3)) op_no))))) sv_next)
      (sv_seq (sv_if (tv_test (bv_ev (ev_op ro_eq (bv_var 2) (bv_ev ev_int)))) (sv_ret (bv_ev (ev_op ro_cats (bv_ev (ev_slS (bv_var 0) op_no (op_part (bv_var 3)))) (bv_ev (ev_slS (bv_var 0) (op_part (bv_ev (ev_op ro_i0 (bv_var 3) (bv_ev ev_int)))) op_no))))) sv_next)
      (sv_seq (sv_if (tv_test (bv_ev (ev_op ro_eq (bv_var 2) (bv_ev ev_int)))) (sv_ret (bv_ev (ev_op ro_cats (bv_ev (ev_op ro_cats (bv_ev (ev_slS (bv_var 0) op_no (op_part (bv_var 3)))) (bv_var 4))) (bv_ev (ev_slS (bv_var 0) (op_part (bv_ev (ev_op ro_i0 (bv_var 3) (bv_ev ev_int)))) op_no))))) sv_next)
      (sv_seq (sv_ifRep e2_c)
      (sv_seq (sv_if (tv_test (bv_ev (ev_op ro_eq (bv_var 2) (bv_ev ev_int)))) (sv_ret (bv_ev (ev_ixl (lv_ov (ov_lst (ae_cons (ev_op ro_cats (bv_ev ev_str) (bv_var 0)) (ae_cons (ev_op ro_cats (bv_var 0) (bv_ev ev_str)) ae_nil)) (by decide))) (bv_ev (ev_mdk (k := 2) (by decide) (bv_var 1) ev_int))))) sv_next)
      (sv_seq (sv_if (tv_test (bv_ev (ev_op ro_eq (bv_var 2) (bv_ev ev_int)))) (sv_ret (bv_ev (ev_op ro_cats (bv_ev (ev_slS (bv_var 0) op_no (op_part (bv_ev (ev_op ro_i0 (bv_ev (ev_rfind (bv_var 0) (bv_ev ev_str))) (bv_ev ev_int)))))) (bv_ev (ev_ixl (lv_ov (ov_lst (ae_cons ev_str (ae_cons ev_str (ae_cons ev_str (ae_cons ev_str (ae_cons ev_str (ae_cons ev_str ae_nil)))))) (by decide))) (bv_ev (ev_mdk (k := 6) (by decide) (bv_var 1) ev_int))))))) sv_next)
      (sv_seq (sv_ifRep (e2_ix (bv_ev (ev_mdk (k := 4) (by decide) (bv_var 1) ev_int))))
      (sv_retV 0)))))))))))), ?_⟩
  rintro ds Q X ⟨x, c, rfl, hx1, hx2, hc0, hc1, k⟩
  have cd : CDivB 0 (x.length : Int) := ⟨by omega, weeLe (n := 10 ^ 30) (by omega) (by decide +kernel)⟩
  have lg : ∀ g : Nat, (⟨#[g]⟩ : Str).length = 1 := fun _ => rfl
  walk_at "s"
  walk_at "s"
  walk_at "s"
  refine ⟨by omega, by omega, ?_⟩
  obtain ⟨pl, hpl⟩ : ∃ pl : Int, c / 16 % (x.length : Int) = pl := ⟨_, rfl⟩
  rw [hpl]
  obtain ⟨cc, hcc⟩ : ∃ cc : Int, c / 16 = cc := ⟨_, rfl⟩
  rw [hcc]
  obtain ⟨wy, hwy⟩ : ∃ wy : Int, c % 16 = wy := ⟨_, rfl⟩
  rw [hwy]
  walk_at "s"
  refine ⟨by omega, cd, _, rfl, fun g => ?_⟩
  have hg := lg g
  have s1 := PySem.Txt.slice_le x none (some pl)
  have s2 := PySem.Txt.slice_le x (some pl) none
  have s3 := PySem.Txt.slice_le x (some (pl + 1)) none
  walk_at "d"
  refine ?_
  walk_at "s"
  refine ite2 (fun _ => ⟨by omega, by omega, by omega, by rw [PySem.Str.length_append]; omega, k _ (by rw [PySem.Str.length_append, PySem.Str.length_append]; omega)⟩) (fun _ => ?_)
  walk_at "s"
  refine ite2 (fun _ => ⟨by omega, by omega, by omega, k _ (by rw [PySem.Str.length_append]; omega)⟩) (fun _ => ?_)
  walk_at "s"
  refine ite2 (fun _ => ⟨by omega, by omega, by omega, by rw [PySem.Str.length_append]; omega, k _ (by rw [PySem.Str.length_append, PySem.Str.length_append]; omega)⟩) (fun _ => ?_)
  walk_at "s"
  refine ite2 (fun _ => ⟨by omega, fun z hz => k z (by omega)⟩) (fun _ => ?_)
  walk_at "s"
  have bl := blank_len
  refine ite2 (fun _ => ?_) (fun _ => ?_)
  · refine ⟨by omega, by omega, ?_⟩
    have : cc % 2 = 0 ∨ cc % 2 = 1 := by omega
    rcases this with h | h
    · rw [h]
      exact ⟨_, atI_nat (j := 0) rfl, k _ (by rw [PySem.Str.length_append]; omega)⟩
    · rw [h]
      exact ⟨_, atI_nat (j := 1) rfl, k _ (by rw [PySem.Str.length_append]; omega)⟩
  walk_at "s"
  refine ite2 (fun _ => ?_) (fun _ => ?_)
  · intro n
    have s4 := PySem.Txt.slice_le x none (some (n + 1))
    walk_at "d"
    refine ⟨by omega, ?_⟩
    obtain ⟨d, hd, e⟩ := atI_some (xs := [PyData.str (Str.ofString "0"), PyData.str (Str.ofString "-1"), PyData.str (Str.ofString "1/2"), PyData.str (Str.ofString "007"), PyData.str (Str.ofString ""), PyData.str (Str.ofString "+1")]) (i := cc % 6) (by omega) (by show cc % 6 < (6 : Int); omega)
    obtain ⟨y, rfl, hy⟩ : ∃ y : Str, d = .str y ∧ y.length ≤ 3 := by
      simp only [List.mem_cons, List.not_mem_nil, or_false] at hd
      rcases hd with rfl | rfl | rfl | rfl | rfl | rfl <;> exact ⟨_, rfl, by decide +kernel⟩
    exact ⟨_, e, by omega, k _ (by rw [PySem.Str.length_append]; omega)⟩
  walk_at "s"
  refine ite2 (fun _ => ⟨by omega, cc % 4, rfl, by omega, by omega, fun z hz => k z (by omega)⟩) (fun _ => ?_)
  walk_at "d"
  exact k _ (by omega)
theorem join_len {ms : List Mk7} (h1 : 1 ≤ ms.length) (hl : ms.length ≤ 61) (h : ∀ m ∈ ms, Sm7 m) : 1 ≤ (Txt.join (Str.ofString " ") (ms.map shM)).length ∧ (Txt.join (Str.ofString " ") (ms.map shM)).length ≤ 40000 := by
  unfold Txt.join
  rw [size_glued]
  have e1 := sum_le (fun z : Str => z.length) 259 (ms.map shM) fun z hz => by
    obtain ⟨m, hm, rfl⟩ := List.mem_map.mp hz
    exact (shM_len (h m hm)).2
  rw [blank_len, List.length_map] at *
  cases ms with
  | nil => exact absurd h1 (by decide)
  | cons m r =>
    have e2 := (shM_len (h m (by simp))).1
    rw [List.map_cons, List.map_cons, List.sum_cons] at *
    simp only [List.length_cons] at *
    omega
theorem mDs_flat (ms : List Mk7) : flatDs (ms.map mD) = true := by
  induction ms with
  | nil => rfl
  | cons m r ih => rw [List.map_cons]; show (flatD (mD m) && flatDs (r.map mD)) = true; rw [ih]; rfl
theorem cut_3 {α : Type} (xs : List α) : (cutL xs none (some 3)).length ≤ 3 := by
  have := cutL_hi xs 3
  rw [show ((3 : Nat) : Int) = 3 from rfl] at this
  rw [this, List.length_take]
  omega
theorem cut_m1 {α : Type} (xs : List α) : (cutL xs (some (-1)) none).length ≤ 1 := by
  unfold cutL HT.sIx
  simp only [List.length_take, List.length_drop]
  split <;> omega
theorem cut_mem {α : Type} {xs : List α} {a b : Option Int} {x : α} (h : x ∈ cutL xs a b) : x ∈ xs := List.mem_of_mem_drop (List.mem_of_mem_take h)
theorem spot_none_empty : spotF (Str.ofString "") = none := by decide +kernel
theorem spot_none_blank : spotF (Str.ofString " ") = none := by decide +kernel
theorem words_empty : Txt.split (Str.ofString "") (Str.ofString " ") = [Str.ofString ""] := by decide +kernel
theorem words_blank : Txt.split (Str.ofString " ") (Str.ofString " ") = [Str.ofString "", Str.ofString ""] := by decide +kernel
theorem ok_law (T : Txt K mg A) : FnOk P w K mg base (CXE P w) 8 A.a_law A.d_law ["script"] (spLaw K) := by
  have G_law_marks := ok_law_marks (P := P) (w := w) (base := base) T
  have G_law_word := ok_law_word (P := P) (w := w) (base := base) T
  have G_show_marks := ok_show_marks (P := P) (w := w) (base := base) T
  have G_show_mark := ok_show_mark (P := P) (w := w) (base := base) T
  have G_law_changed := ok_law_changed (P := P) (w := w) (base := base) T
  have G_law_cell := ok_law_cell (P := P) (w := w) (base := base) T
  have G_law_refused := ok_law_refused (P := P) (w := w) (base := base) T
  have G_law_spot := ok_law_spot (P := P) (w := w) (base := base) T
  have G_law_words := ok_law_words (P := P) (w := w) (base := base) T
  have G_law_good := ok_law_good (P := P) (w := w) (base := base) T
  have G_read_marks := ok_read_marks (P := P) (w := w) (base := base) T
  refine law_of (okW T.F_law sc_law (fun ds Q E h => ?_) (fun cdv Ar outer s H E hr => ?_))
  · obtain ⟨a, rfl, _⟩ := h; rfl
  refine ⟨_, (pss_cons (ps_set (i := 1) sc_law.nd rfl (Or.inl rfl) (pe_call G_law_marks (hr.mono (by decide)) rfl T.m_law_marks T.F_law_marks.kp T.b_law_marks .nil passE0 (pa_cons (pv 0) pa_nil)))
      (pss_cons (ps_set (i := 2) sc_law.nd rfl (Or.inl rfl) (pe_bm PySem.F.plainAttrs_str PySem.F.slot_str_join PySem.F.type_str_join (mt_joinK (K := K) rfl) pe_str (pa_cons (pe_lc (cap := [none]) (NC := ["mark"]) rfl ⟨rfl, rfl, by decide +kernel, by decide +kernel, trivial, (fun _ h => nomatch h), rfl⟩ (pilK (K := K) rfl (pv 1)) (fun _ _ _ _ => (pg_name (i := 0) (show List.Nodup (["mark"] : List Str) by decide) rfl (Or.inl rfl))) (fun _ _ _ _ => pts_nil) (fun _ _ _ _ => (pe_call G_law_word (hr.mono (by decide)) rfl T.m_law_word T.F_law_word.kp T.b_law_word .nil passE0 (pa_cons (pv 0) pa_nil)))) pa_nil)))
      (pss_cons (ps_if (PW.pt (pw_or (PW.pt (pw_and (pt_cmpR op_le (pe_callB (lenK (K := K) rfl) rfl T.n_len PySem.boot_len (pa_cons (pv 1) pa_nil)) pe_int (nomark _)) (pw_and1 (pt_cmpR op_ne (pe_call G_show_marks (hr.mono (by decide)) rfl T.m_show_marks T.F_show_marks.kp T.b_show_marks .nil passE0 (pa_cons (pe_callTy (listK (K := K) rfl) rfl T.n_list bt_list (pa_cons (pv 1) pa_nil)) pa_nil)) (pv 2) (nomark _))))) (pw_or1 (pt_cmpR op_ne (pe_call G_show_mark (hr.mono (by decide)) rfl T.m_show_mark T.F_show_mark.kp T.b_show_mark .nil passE0 (pa_cons (pe_ix (ixlK (K := K) rfl) (pv 1) pe_int (fun _ _ => rfl)) pa_nil)) (pe_call G_law_word (hr.mono (by decide)) rfl T.m_law_word T.F_law_word.kp T.b_law_word .nil passE0 (pa_cons (pe_ix (ixlK (K := K) rfl) (pv 1) pe_int (fun _ _ => rfl)) pa_nil)) (nomark _))))) (pss_one (ps_ret pe_bl)) pss_nil)
      (pss_cons (ps_set (i := 2) sc_law.nd rfl (Or.inl rfl) (pe_call G_law_changed (hr.mono (by decide)) rfl T.m_law_changed T.F_law_changed.kp T.b_law_changed .nil passE0 (pa_cons (pv 2) (pa_cons (pe_op op_mod (pe_call G_law_cell (hr.mono (by decide)) rfl T.m_law_cell T.F_law_cell.kp T.b_law_cell .nil passE0 (pa_cons (pv 0) (pa_cons pe_int pa_nil))) (pe_op op_pow pe_int pe_int)) pa_nil))))
      (pss_cons (ps_for PassesOwn.leaving rfl (pilK (K := K) rfl (pe_lst (pa_cons pe_non (pa_cons (pv 1) (pa_cons (pe_tup (pa_cons pe_str pa_nil)) (pa_cons pe_int (pa_cons pe_str (pa_cons pe_str pa_nil)))))))) (pg_name (i := 3) sc_law.nd rfl (Or.inl rfl))
        (pss_one (ps_if (PW.pt (pw_or (pt_not (pt_val (pe_call G_law_refused (hr.mono (by decide)) rfl T.m_law_refused T.F_law_refused.kp T.b_law_refused .nil passE0 (pa_cons (pv 3) (pa_cons pe_bl pa_nil))))) (pw_or1 (pt_not (pt_val (pe_call G_law_refused (hr.mono (by decide)) rfl T.m_law_refused T.F_law_refused.kp T.b_law_refused .nil passE0 (pa_cons (pv 3) (pa_cons pe_bl pa_nil)))))))) (pss_one (ps_ret pe_bl)) pss_nil)))
      (pss_cons (ps_set (i := 4) sc_law.nd rfl (Or.inl rfl) (pe_bm PySem.F.plainAttrs_str PySem.F.slot_str_split PySem.F.type_str_split mt_split (pv 2) (pa_cons pe_str pa_nil)))
      (pss_cons (ps_setLC (i := 5) (cap := [none]) (NC := ["word"]) sc_law.nd rfl rfl rfl ⟨rfl, rfl, by decide +kernel, by decide +kernel, trivial, (fun _ h => nomatch h), rfl⟩ (pilK (K := K) rfl (pv 4)) (fun _ _ _ _ => (pg_name (i := 0) (show List.Nodup (["word"] : List Str) by decide) rfl (Or.inl rfl))) (fun _ _ _ _ => pts_nil) (fun _ _ _ _ => (pe_call G_law_spot (hr.mono (by decide)) rfl T.m_law_spot T.F_law_spot.kp T.b_law_spot .nil passE0 (pa_cons (pv 0) pa_nil))))
      (pss_cons (ps_if (pt_not (pt_val (pe_call G_law_words (hr.mono (by decide)) rfl T.m_law_words T.F_law_words.kp T.b_law_words .nil passE0 (pa_cons (pe_op op_cat (pe_slice (sllK (K := K) rfl) (pv 4) po_none (po_some pe_int)) (pe_slice (sllK (K := K) rfl) (pv 4) (po_some (pe_un un_neg pe_int)) po_none)) pa_nil)))) (pss_one (ps_ret pe_bl)) pss_nil)
      (pss_cons (ps_if (PW.pt (pw_or (pt_cmpR (inK (K := K) rfl hr.units) pe_non (pv 5) rfl) (pw_or1 (pt_cmpR op_gt (pe_callB (lenK (K := K) rfl) rfl T.n_len PySem.boot_len (pa_cons (pv 5) pa_nil)) pe_int (nomark _))))) (pss_one (ps_ret (pe_call G_law_refused (hr.mono (by decide)) rfl T.m_law_refused T.F_law_refused.kp T.b_law_refused .nil passE0 (pa_cons (pv 2) (pa_cons pe_bl pa_nil))))) pss_nil)
      (pss_cons (ps_set (i := 6) sc_law.nd rfl (Or.inl rfl) (pe_call G_read_marks (hr.mono (by decide)) rfl T.m_read_marks T.F_read_marks.kp T.b_read_marks .nil passE0 (pa_cons (pv 2) pa_nil)))
      (pss_cons (ps_if (PW.pt (pw_or (pt_not (pt_val (pe_callB (isiDK (K := K) rfl) rfl T.n_isinstance bt_isinstance (pa_cons (pv 6) (pa_cons (pe_bltn rfl T.n_list bt_list (show RelV (.ty "list") (.type "list") from rfl)) pa_nil))))) (pw_or1 (pt_cmpR op_ne (pe_callB (lenK (K := K) rfl) rfl T.n_len PySem.boot_len (pa_cons (pv 6) pa_nil)) (pe_callB (lenK (K := K) rfl) rfl T.n_len PySem.boot_len (pa_cons (pv 5) pa_nil)) (nomark _))))) (pss_one (ps_ret pe_bl)) pss_nil)
      (pss_cons (ps_for PassesOwn.leaving rfl (pi_range1 rfl T.n_range (pa_cons (pe_callB (lenK (K := K) rfl) rfl T.n_len PySem.boot_len (pa_cons (pv 5) pa_nil)) pa_nil)) (pg_name (i := 7) sc_law.nd rfl (Or.inl rfl))
        (pss_one (ps_if (pt_not (pt_val (pe_call G_law_good (hr.mono (by decide)) rfl T.m_law_good T.F_law_good.kp T.b_law_good .nil passE0 (pa_cons (pe_ix (ixlK (K := K) rfl) (pv 6) (pv 7) (fun _ _ => rfl)) (pa_cons (pe_ix (ixlK (K := K) rfl) (pv 5) (pv 7) (fun _ _ => rfl)) pa_nil))))) (pss_one (ps_ret pe_bl)) pss_nil)))
      (pss_one (ps_ret pe_bl)))))))))))))), _, (sv_seq (sv_setO 1 (ov_call0 (av_cons (bv_var 0) av_nil)))
      (sv_seq (sv_asg (ev_join (bv_ev ev_str) (lv_ov (ov_lcX (ie_list (lv_var 1)) (gv_name 0) tv_yes (ev_call0 (av_cons (bv_var 0) av_nil)) (by decide) (by decide)))) (gv_name 2))
      (sv_cut (sv_if (tv_or (tv_and (tv_test (bv_ev (ev_op ro_b0 (bv_ev (ev_cb rb_len (av_cons (bv_var 1) av_nil))) (bv_ev ev_int)))) (tv_test (bv_ev (ev_op ro_ne (bv_ev (ev_call0 (av_cons (bv_ev (ev_ov (ov_list (lv_var 1)))) av_nil))) (bv_var 2))))) (tv_test (bv_ev (ev_op ro_ne (bv_ev (ev_call0 (av_cons (bv_ev (ev_ixl (lv_var 1) (bv_ev ev_int))) av_nil))) (bv_ev (ev_call0 (av_cons (bv_ev (ev_ixl (lv_var 1) (bv_ev ev_int))) av_nil))))))) (sv_ret (bv_ev ev_bl)) sv_next)
      (sv_seq (sv_asg (ev_call0 (av_cons (bv_var 2) (av_cons (bv_ev (ev_mdk (k := 1000000000000000000000000000000) (by decide) (bv_ev (ev_call0 (av_cons (bv_var 0) (av_cons (bv_ev ev_int) av_nil)))) (ev_k (v := 1000000000000000000000000000000) (ev_op ro_i (bv_ev ev_int) (bv_ev ev_int)) (fun ex δ Q h => ⟨cpow (by decide +kernel), Eq.mpr (congrArg (fun z => Q (.int z)) (by decide +kernel : ((10 ^ Int.toNat 30) : Int) = 1000000000000000000000000000000)) h⟩)))) av_nil))) (gv_name 2))
      (sv_cut (sv_frz 1 (sv_forN (bv_lst (an_cons (bv_ev ev_non) (an_cons (bv_var 1) (an_cons (bv_ev (ev_tup (ae_cons ev_str ae_nil) (by decide))) (an_cons (bv_ev ev_int) (an_cons (bv_ev ev_str) (an_cons (bv_ev ev_str) an_nil)))))) (by decide)) (gv_name 3)
        (sv_if (tv_or (tv_not (tv_b (bv_ev (ev_call0 (av_cons (bv_var 3) (av_cons (bv_ev ev_bl) av_nil)))))) (tv_not (tv_b (bv_ev (ev_call0 (av_cons (bv_var 3) (av_cons (bv_ev ev_bl) av_nil))))))) (sv_ret (bv_ev ev_bl)) sv_next)))
      (sv_seq (sv_setO 4 (ov_split (bv_var 2) (bv_ev ev_str)))
      (sv_seq (sv_setO 5 (ov_lcX (ie_list (lv_var 4)) (gv_name 0) tv_yes (ev_call0 (av_cons (bv_var 0) av_nil)) (by decide) (by decide)))
      (sv_cut (sv_if (tv_not (tv_b (bv_ev (ev_call0 (av_cons (bv_ev (ev_ov (ov_cat (mv_ov (ov_sl (lv_var 4) op_no (op_part (bv_ev ev_int)))) (mv_ov (ov_sl (lv_var 4) (op_part (bv_ev (ev_k (v := (-1)) (ev_neg (bv_ev ev_int)) (fun ex δ Q h => Eq.mpr (congrArg (fun z => Q (.int z)) (by decide +kernel : ((-1) : Int) = -1)) h)))) op_no))))) av_nil))))) (sv_ret (bv_ev ev_bl)) sv_next)
      (sv_seq (sv_if (tv_or (tv_test (bv_ev (ev_op ro_inD (bv_ev ev_non) (bv_var 5)))) (tv_test (bv_ev (ev_op ro_b0 (bv_ev (ev_cb rb_len (av_cons (bv_var 5) av_nil))) (bv_ev ev_int))))) (sv_ret (bv_ev (ev_call0 (av_cons (bv_var 2) (av_cons (bv_ev ev_bl) av_nil))))) sv_next)
      (sv_seq (sv_setO 6 (ov_call0 (av_cons (bv_var 2) av_nil)))
      (sv_seq (sv_if (tv_or (tv_not (tv_b (bv_ev (ev_isi (by decide) (bv_var 6))))) (tv_test (bv_ev (ev_op ro_ne (bv_ev (ev_cb rb_len (av_cons (bv_var 6) av_nil))) (bv_ev (ev_cb rb_len (av_cons (bv_var 5) av_nil))))))) (sv_ret (bv_ev ev_bl)) sv_next)
      (sv_seq (sv_for (is_rng1 (av_cons (bv_ev (ev_cb rb_len (av_cons (bv_var 5) av_nil))) av_nil)) (gv_name 7)
        (sv_if (tv_not (tv_b (bv_ev (ev_call0 (av_cons (bv_ev (ev_ixl (lv_var 6) (bv_var 7))) (av_cons (bv_ev (ev_ixl (lv_var 5) (bv_var 7))) av_nil)))))) (sv_ret (bv_ev ev_bl)) sv_next))
      (sv_ret (bv_ev ev_bl)))))))))))))), ?_⟩
  rintro ds Q X ⟨ns, rfl, hlen, hbits, k⟩
  have hb : ∀ v ∈ ns, Bg 1048577 v := fun v hv => Bg.of (hbits v hv)
  walk_at "s"
  refine ⟨ns, rfl, hlen, hb, fun ms m1 m61 hsm => ?_⟩
  obtain ⟨j1, j2⟩ := join_len m1 m61 hsm
  walk_at "d"
  refine ⟨mDs_flat ms, ?_⟩
  walk_at "s"
  refine lcX_map mD PyData.str (fun m => [shM m]) (fun _ => True) ms (by omega) (fun Q h => by
      walk_at "d"
      exact h) (fun m hm N acc hN => ?_) fun _ => ?_
  · walk_at "d"
    refine ⟨m, rfl, hsm m hm, ?_⟩
    walk_at "d"
    exact hN trivial
  rw [flat_single]
  refine ⟨ms.map shM, rfl, joins_fit (by omega) hsm, ?_⟩
  obtain ⟨tx, htx⟩ : ∃ tx, Txt.join (Str.ofString " ") (ms.map shM) = tx := ⟨_, rfl⟩
  rw [htx] at j1 j2 ⊢
  walk_at "d"
  have a0 : atI (ms.map mD) 0 = some (mD (ms[0]'(by omega))) := atI_nat (j := 0) (by rw [List.getElem?_map, List.getElem?_eq_getElem (by omega)]; rfl)
  have sm0 : Sm7 (ms[0]'(by omega)) := hsm _ (List.getElem_mem _)
  obtain ⟨m0, hm0⟩ : ∃ m0, ms[0]'(by omega) = m0 := ⟨_, rfl⟩
  rw [hm0] at a0 sm0
  refine cut_mk (fun δ => δ = [some (.dat (.list (ns.map .int))), some (.own (ms.map mD)), some (.dat (.str tx)), none, none, none, none, none]) ?_ ?_
  · walk_at "d"
    have second : ∃ d, atI (ms.map mD) 0 = some d ∧ wShowM [d] (flatS fun x => ∃ d, atI (ms.map mD) 0 = some d ∧ wShowM [d] (flatS fun y => match x, y with
        | .int i, .int j => if ¬ i = j then Q (.dat (.bool false)) else True
        | .str i, .str j => if ¬ i = j then Q (.dat (.bool false)) else True
        | .bool i, .bool j => if ¬ i = j then Q (.dat (.bool false)) else True
        | _, _ => False) fun _ => False) fun _ => False := by
      refine ⟨_, a0, m0, rfl, sm0, ?_⟩
      walk_at "d"
      refine ⟨_, a0, m0, rfl, sm0, ?_⟩
      walk_at "d"
    refine ite2 (fun c => ⟨ms, rfl, by omega, hsm, ?_⟩) (fun _ => second)
    rw [htx]
    walk_at "d"
    exact second
  rintro δ rfl
  walk_at "s"
  refine ⟨ns, 1, rfl, hb, by omega, by omega, fun v hv => ?_⟩
  walk_at "d"
  refine ⟨tx, _, rfl, j1, j2, by omega, by omega, fun z hz => ?_⟩
  walk_at "d"
  refine cut_mk (fun δ => ∃ s3 : Option PyData, δ = [some (.dat (.list (ns.map .int))), some (.dat (.list (ms.map mD))), some (.dat (.str z)), s3.map Sl.dat, none, none, none, none]) ?_ ?_
  · walk_at "d"
    refine ⟨fun i δ => ∃ s3 : Option PyData, δ = [some (.dat (.list (ns.map .int))), some (.dat (.list (ms.map mD))), some (.dat (.str z)), s3.map Sl.dat, none, none, none, none], ⟨none, rfl⟩, fun i d δ' hi ⟨s3, hd⟩ => ?_, fun δ' h => h⟩
    subst hd
    have bad : (∀ (Q : Sl → Prop) (X : DX), X A.x_NoText → wMark A.x_NoText [d] Q X) ∧ ∀ (Q : Sl → Prop) (X : DX), X A.x_NoText → wMarks A.x_NoText [d] Q X := by
      have hm := List.mem_of_getElem? hi
      simp only [List.mem_cons, List.not_mem_nil, or_false] at hm
      have no : (∀ x, d ≠ .str x) → (∀ (Q : Sl → Prop) (X : DX), X A.x_NoText → wMark A.x_NoText [d] Q X) ∧ ∀ (Q : Sl → Prop) (X : DX), X A.x_NoText → wMarks A.x_NoText [d] Q X := fun h => ⟨fun Q X hX => .inr ⟨d, rfl, h, hX⟩, fun Q X hX => .inr ⟨d, rfl, h, hX⟩⟩
      rcases hm with rfl | rfl | rfl | rfl | rfl | rfl
      · exact no fun x e => nomatch e
      · exact no fun x e => nomatch e
      · exact no fun x e => nomatch e
      · exact no fun x e => nomatch e
      · exact ⟨fun Q X hX => .inl ⟨_, rfl, by decide +kernel, (fun m hm => by rw [spot_none_empty] at hm; cases hm), fun _ => hX⟩, fun Q X hX => .inl ⟨_, rfl, by decide +kernel, (fun _ h => absurd spot_none_empty (h _ (by rw [words_empty]; simp))), fun _ => hX⟩⟩
      · exact ⟨fun Q X hX => .inl ⟨_, rfl, by decide +kernel, (fun m hm => by rw [spot_none_blank] at hm; cases hm), fun _ => hX⟩, fun Q X hX => .inl ⟨_, rfl, by decide +kernel, (fun _ h => absurd spot_none_empty (h _ (by rw [words_blank]; simp))), fun _ => hX⟩⟩
    refine ⟨d, false, rfl, fun c => (by cases c), fun _ => bad.2, ?_⟩
    walk_at "d"
    refine ⟨d, true, rfl, fun _ => bad.1, fun c => (by cases c), ?_⟩
    walk_at "d"
    exact ⟨some d, rfl⟩
  rintro δ ⟨s3, rfl⟩
  have hl := split_le z (Str.ofString " ")
  have hwl : ∀ y ∈ Txt.split z (Str.ofString " "), y.length ≤ 90000 := fun y hy => Nat.le_trans (split_mem hy) hz
  walk_at "s"
  refine ⟨hz, by rw [blank_len]; rfl, ?_⟩
  obtain ⟨ws, hws⟩ : ∃ ws, Txt.split z (Str.ofString " ") = ws := ⟨_, rfl⟩
  rw [hws] at hl hwl ⊢
  walk_at "s"
  refine lcX_map PyData.str optM (fun y => [spotF y]) (fun _ => True) ws (by omega) (fun Q h => by
      walk_at "d"
      exact h) (fun y hy N acc hN => ?_) fun _ => ?_
  · walk_at "d"
    refine ⟨y, rfl, by have := hwl y hy; omega, ?_⟩
    walk_at "d"
    refine ⟨?_, hN trivial⟩
    cases spotF y <;> rfl
  rw [flat_single]
  walk_at "d"
  refine cut_mk (fun δ => δ = [some (.dat (.list (ns.map .int))), some (.dat (.list (ms.map mD))), some (.dat (.str z)), s3.map Sl.dat, some (.own (ws.map PyData.str)), some (.own ((ws.map spotF).map optM)), none, none]) ?_ ?_
  · walk_at "d"
    rw [cutL_map, cutL_map, ← List.map_append]
    have c1 := cut_3 ws
    have c2 := cut_m1 ws
    refine ⟨by rw [List.length_map, List.length_map]; omega, _, rfl, fun y hy => hwl y ?_, ?_⟩
    · rcases List.mem_append.mp hy with h | h
      · exact cut_mem h
      · exact cut_mem h
    · walk_at "d"
  rintro δ rfl
  have iff60 : (60 < ws.length ∨ ∃ y ∈ ws, spotF y = none) → ∀ (Q : Sl → Prop) (X : DX), X A.x_NoText → wMarks A.x_NoText [.str z] Q X := fun h Q X hX => .inl ⟨z, rfl, hz, (fun h60 hall => by
    rw [hws] at h60 hall
    rcases h with h | ⟨y, hy, hn⟩
    · omega
    · exact absurd hn (hall y hy)), fun _ => hX⟩
  walk_at "s"
  refine ⟨Option Mk7, eOM, none, ws.map spotF, rfl, rfl, fun kb hkb => ?_⟩
  cases kb with
  | true =>
    obtain ⟨y, hy, hn⟩ := List.mem_map.mp (hkb.mp rfl)
    refine iteT ?_
    refine ⟨_, false, rfl, fun c => (by cases c), fun _ => iff60 (.inr ⟨y, hy, hn⟩), ?_⟩
    walk_at "d"
    exact k
  | false =>
    have hall : ∀ y ∈ ws, spotF y ≠ none := fun y hy hn => absurd (hkb.mpr (List.mem_map.mpr ⟨y, hy, hn⟩)) (by decide)
    refine iteF ?_
    refine ite2 (fun c => ?_) (fun c => ?_)
    · refine ⟨_, false, rfl, fun c => (by cases c), fun _ => iff60 (.inl (by omega)), ?_⟩
      walk_at "d"
      exact k
    have g1 : ∀ y ∈ ws, optM (spotF y) = mD (spotD y) := fun y hy => by
      cases h : spotF y with
      | none => exact absurd h (hall y hy)
      | some m => rw [spotD_is h]; rfl
    walk_at "s"
    refine .inl ⟨z, rfl, hz, fun _ _ => ?_, fun h => ?_⟩
    · rw [hws]
      have e1 : (ws.map fun y => mD (spotD y)) = (ws.map spotD).map mD := by rw [List.map_map]; rfl
      rw [e1]
      walk_at "d"
      refine ⟨mDs_flat _, ?_⟩
      walk_at "s"
      refine ite2 (fun c => absurd c (by decide)) (fun _ => ?_)
      refine seq_mk (for_rng (lo := 0) (st := 1) (n := ws.length) (fun Q h => by
          walk_at "d"
          rw [Int.toNat_natCast]
          exact ⟨⟨by omega, by omega⟩, h⟩) (fun i δ => ∃ s7 : Option Sl, δ = [some (.dat (.list (ns.map .int))), some (.dat (.list (ms.map mD))), some (.dat (.str z)), s3.map Sl.dat, some (.own (ws.map PyData.str)), some (.own ((ws.map spotF).map optM)), some (.own ((ws.map spotD).map mD)), s7]) ⟨none, rfl⟩ ?_ ?_)
      · rintro i δ hi ⟨s7, rfl⟩
        obtain ⟨kk, hk⟩ : ∃ kk : Int, 0 + (i : Int) * 1 = kk := ⟨_, rfl⟩
        have hki : kk = (i : Int) := by omega
        rw [hk]
        have f1 : atI ((ws.map spotD).map mD) kk = some (mD (spotD (ws[i]'hi))) := by
          rw [hki]; exact atI_nat (by rw [List.getElem?_map, List.getElem?_map, List.getElem?_eq_getElem hi]; rfl)
        have f2 : atI ((ws.map spotF).map optM) kk = some (mD (spotD (ws[i]'hi))) := by
          rw [hki, ← g1 _ (List.getElem_mem hi)]; exact atI_nat (by rw [List.getElem?_map, List.getElem?_map, List.getElem?_eq_getElem hi]; rfl)
        walk_at "d"
        refine ⟨_, f1, _, f2, _, rfl, ?_⟩
        walk_at "d"
        exact ⟨_, rfl⟩
      · rintro δ ⟨s7, rfl⟩
        walk_at "d"
        exact k
    · rw [hws] at h
      rcases h with h | ⟨y, hy, hn⟩
      · omega
      · exact hall y hy hn
end
@[elab_as_elim] theorem el1 {P : List Value → Prop} : ∀ us : List Value, us.length = 1 → (∀ a0 : Value, P [a0]) → P us
  | [], h, _ => by cases h
  | [a0], _, h => h a0
  | _ :: _ :: _, h, _ => by simp at h
@[elab_as_elim] theorem el2 {P : List Value → Prop} : ∀ us : List Value, us.length = 2 → (∀ a0 a1 : Value, P [a0, a1]) → P us
  | [], h, _ => by cases h
  | [_], h, _ => by cases h
  | [a0, a1], _, h => h a0 a1
  | _ :: _ :: _ :: _, h, _ => by simp at h
theorem all_mk {l : PySem.W.OpenLaw} {w : World} {K : PySem.W.Frag} {h : Heap} {mg : Str → Option Value} {fa f_common_divisor f_fraction f_check_text f_is_figures f_read_whole f_read_fraction f_read_mark f_read_marks f_show_fraction f_show_mark f_show_marks f_law_cell f_law_sign f_law_number f_law_divisor f_law_value f_law_great f_law_lowest f_law_mark f_law_marks f_law_written f_law_word f_law_changed f_law_spot f_law_refused f_law_good f_law_words f_law x_MissError x_NoNumber x_NoMarks x_NoText x_NoName x_NoRow : Addr} (X : K.In h) (G : h.Ns mainGlobals mg) (hfa : mg "law" = some (.ref fa))
    {od0 an0 : Option Addr} {sl0 : Array (Option Value)} {oc0 kV0 dc0 pm0 cd0 ct0 : Value}
    {od1 an1 : Option Addr} {sl1 : Array (Option Value)} {oc1 kV1 dc1 pm1 cd1 ct1 : Value}
    {od2 an2 : Option Addr} {sl2 : Array (Option Value)} {oc2 kV2 dc2 pm2 cd2 ct2 : Value}
    {od3 an3 : Option Addr} {sl3 : Array (Option Value)} {oc3 kV3 dc3 pm3 cd3 ct3 : Value}
    {od4 an4 : Option Addr} {sl4 : Array (Option Value)} {oc4 kV4 dc4 pm4 cd4 ct4 : Value}
    {od5 an5 : Option Addr} {sl5 : Array (Option Value)} {oc5 kV5 dc5 pm5 cd5 ct5 : Value}
    {od6 an6 : Option Addr} {sl6 : Array (Option Value)} {oc6 kV6 dc6 pm6 cd6 ct6 : Value}
    {od7 an7 : Option Addr} {sl7 : Array (Option Value)} {oc7 kV7 dc7 pm7 cd7 ct7 : Value}
    {od8 an8 : Option Addr} {sl8 : Array (Option Value)} {oc8 kV8 dc8 pm8 cd8 ct8 : Value}
    {od9 an9 : Option Addr} {sl9 : Array (Option Value)} {oc9 kV9 dc9 pm9 cd9 ct9 : Value}
    {od10 an10 : Option Addr} {sl10 : Array (Option Value)} {oc10 kV10 dc10 pm10 cd10 ct10 : Value}
    {od11 an11 : Option Addr} {sl11 : Array (Option Value)} {oc11 kV11 dc11 pm11 cd11 ct11 : Value}
    {od12 an12 : Option Addr} {sl12 : Array (Option Value)} {oc12 kV12 dc12 pm12 cd12 ct12 : Value}
    {od13 an13 : Option Addr} {sl13 : Array (Option Value)} {oc13 kV13 dc13 pm13 cd13 ct13 : Value}
    {od14 an14 : Option Addr} {sl14 : Array (Option Value)} {oc14 kV14 dc14 pm14 cd14 ct14 : Value}
    {od15 an15 : Option Addr} {sl15 : Array (Option Value)} {oc15 kV15 dc15 pm15 cd15 ct15 : Value}
    {od16 an16 : Option Addr} {sl16 : Array (Option Value)} {oc16 kV16 dc16 pm16 cd16 ct16 : Value}
    {od17 an17 : Option Addr} {sl17 : Array (Option Value)} {oc17 kV17 dc17 pm17 cd17 ct17 : Value}
    {od18 an18 : Option Addr} {sl18 : Array (Option Value)} {oc18 kV18 dc18 pm18 cd18 ct18 : Value}
    {od19 an19 : Option Addr} {sl19 : Array (Option Value)} {oc19 kV19 dc19 pm19 cd19 ct19 : Value}
    {od20 an20 : Option Addr} {sl20 : Array (Option Value)} {oc20 kV20 dc20 pm20 cd20 ct20 : Value}
    {od21 an21 : Option Addr} {sl21 : Array (Option Value)} {oc21 kV21 dc21 pm21 cd21 ct21 : Value}
    {od22 an22 : Option Addr} {sl22 : Array (Option Value)} {oc22 kV22 dc22 pm22 cd22 ct22 : Value}
    {od23 an23 : Option Addr} {sl23 : Array (Option Value)} {oc23 kV23 dc23 pm23 cd23 ct23 : Value}
    {od24 an24 : Option Addr} {sl24 : Array (Option Value)} {oc24 kV24 dc24 pm24 cd24 ct24 : Value}
    {od25 an25 : Option Addr} {sl25 : Array (Option Value)} {oc25 kV25 dc25 pm25 cd25 ct25 : Value}
    {od26 an26 : Option Addr} {sl26 : Array (Option Value)} {oc26 kV26 dc26 pm26 cd26 ct26 : Value}
    {od27 an27 : Option Addr} {sl27 : Array (Option Value)} {oc27 kV27 dc27 pm27 cd27 ct27 : Value}
    (a0 : PySem.W.nsIn K mainGlobals "common_divisor" = some (some (.ref f_common_divisor))) (l0 : K.lookup f_common_divisor = some ⟨oc0, od0, .func (PySem.W.fnOf "common_divisor" "common_divisor" (defArgs s_common_divisor) (defBody s_common_divisor) (defScope s_common_divisor) .none kV0 dc0 pm0 an0 cd0 ct0), sl0⟩) (c0 : PySem.W.codeIn K cd0 "common_divisor" = true) (k0 : PySem.W.keepIn K (.ref f_common_divisor) = true)
    (a1 : PySem.W.nsIn K mainGlobals "fraction" = some (some (.ref f_fraction))) (l1 : K.lookup f_fraction = some ⟨oc1, od1, .func (PySem.W.fnOf "fraction" "fraction" (defArgs s_fraction) (defBody s_fraction) (defScope s_fraction) .none kV1 dc1 pm1 an1 cd1 ct1), sl1⟩) (c1 : PySem.W.codeIn K cd1 "fraction" = true) (k1 : PySem.W.keepIn K (.ref f_fraction) = true)
    (a2 : PySem.W.nsIn K mainGlobals "check_text" = some (some (.ref f_check_text))) (l2 : K.lookup f_check_text = some ⟨oc2, od2, .func (PySem.W.fnOf "check_text" "check_text" (defArgs s_check_text) (defBody s_check_text) (defScope s_check_text) .none kV2 dc2 pm2 an2 cd2 ct2), sl2⟩) (c2 : PySem.W.codeIn K cd2 "check_text" = true) (k2 : PySem.W.keepIn K (.ref f_check_text) = true)
    (a3 : PySem.W.nsIn K mainGlobals "is_figures" = some (some (.ref f_is_figures))) (l3 : K.lookup f_is_figures = some ⟨oc3, od3, .func (PySem.W.fnOf "is_figures" "is_figures" (defArgs s_is_figures) (defBody s_is_figures) (defScope s_is_figures) .none kV3 dc3 pm3 an3 cd3 ct3), sl3⟩) (c3 : PySem.W.codeIn K cd3 "is_figures" = true) (k3 : PySem.W.keepIn K (.ref f_is_figures) = true)
    (a4 : PySem.W.nsIn K mainGlobals "read_whole" = some (some (.ref f_read_whole))) (l4 : K.lookup f_read_whole = some ⟨oc4, od4, .func (PySem.W.fnOf "read_whole" "read_whole" (defArgs s_read_whole) (defBody s_read_whole) (defScope s_read_whole) .none kV4 dc4 pm4 an4 cd4 ct4), sl4⟩) (c4 : PySem.W.codeIn K cd4 "read_whole" = true) (k4 : PySem.W.keepIn K (.ref f_read_whole) = true)
    (a5 : PySem.W.nsIn K mainGlobals "read_fraction" = some (some (.ref f_read_fraction))) (l5 : K.lookup f_read_fraction = some ⟨oc5, od5, .func (PySem.W.fnOf "read_fraction" "read_fraction" (defArgs s_read_fraction) (defBody s_read_fraction) (defScope s_read_fraction) .none kV5 dc5 pm5 an5 cd5 ct5), sl5⟩) (c5 : PySem.W.codeIn K cd5 "read_fraction" = true) (k5 : PySem.W.keepIn K (.ref f_read_fraction) = true)
    (a6 : PySem.W.nsIn K mainGlobals "read_mark" = some (some (.ref f_read_mark))) (l6 : K.lookup f_read_mark = some ⟨oc6, od6, .func (PySem.W.fnOf "read_mark" "read_mark" (defArgs s_read_mark) (defBody s_read_mark) (defScope s_read_mark) .none kV6 dc6 pm6 an6 cd6 ct6), sl6⟩) (c6 : PySem.W.codeIn K cd6 "read_mark" = true) (k6 : PySem.W.keepIn K (.ref f_read_mark) = true)
    (a7 : PySem.W.nsIn K mainGlobals "read_marks" = some (some (.ref f_read_marks))) (l7 : K.lookup f_read_marks = some ⟨oc7, od7, .func (PySem.W.fnOf "read_marks" "read_marks" (defArgs s_read_marks) (defBody s_read_marks) (defScope s_read_marks) .none kV7 dc7 pm7 an7 cd7 ct7), sl7⟩) (c7 : PySem.W.codeIn K cd7 "read_marks" = true) (k7 : PySem.W.keepIn K (.ref f_read_marks) = true)
    (a8 : PySem.W.nsIn K mainGlobals "show_fraction" = some (some (.ref f_show_fraction))) (l8 : K.lookup f_show_fraction = some ⟨oc8, od8, .func (PySem.W.fnOf "show_fraction" "show_fraction" (defArgs s_show_fraction) (defBody s_show_fraction) (defScope s_show_fraction) .none kV8 dc8 pm8 an8 cd8 ct8), sl8⟩) (c8 : PySem.W.codeIn K cd8 "show_fraction" = true) (k8 : PySem.W.keepIn K (.ref f_show_fraction) = true)
    (a9 : PySem.W.nsIn K mainGlobals "show_mark" = some (some (.ref f_show_mark))) (l9 : K.lookup f_show_mark = some ⟨oc9, od9, .func (PySem.W.fnOf "show_mark" "show_mark" (defArgs s_show_mark) (defBody s_show_mark) (defScope s_show_mark) .none kV9 dc9 pm9 an9 cd9 ct9), sl9⟩) (c9 : PySem.W.codeIn K cd9 "show_mark" = true) (k9 : PySem.W.keepIn K (.ref f_show_mark) = true)
    (a10 : PySem.W.nsIn K mainGlobals "show_marks" = some (some (.ref f_show_marks))) (l10 : K.lookup f_show_marks = some ⟨oc10, od10, .func (PySem.W.fnOf "show_marks" "show_marks" (defArgs s_show_marks) (defBody s_show_marks) (defScope s_show_marks) .none kV10 dc10 pm10 an10 cd10 ct10), sl10⟩) (c10 : PySem.W.codeIn K cd10 "show_marks" = true) (k10 : PySem.W.keepIn K (.ref f_show_marks) = true)
    (a11 : PySem.W.nsIn K mainGlobals "_law_cell" = some (some (.ref f_law_cell))) (l11 : K.lookup f_law_cell = some ⟨oc11, od11, .func (PySem.W.fnOf "_law_cell" "_law_cell" (defArgs s_law_cell) (defBody s_law_cell) (defScope s_law_cell) .none kV11 dc11 pm11 an11 cd11 ct11), sl11⟩) (c11 : PySem.W.codeIn K cd11 "_law_cell" = true) (k11 : PySem.W.keepIn K (.ref f_law_cell) = true)
    (a12 : PySem.W.nsIn K mainGlobals "_law_sign" = some (some (.ref f_law_sign))) (l12 : K.lookup f_law_sign = some ⟨oc12, od12, .func (PySem.W.fnOf "_law_sign" "_law_sign" (defArgs s_law_sign) (defBody s_law_sign) (defScope s_law_sign) .none kV12 dc12 pm12 an12 cd12 ct12), sl12⟩) (c12 : PySem.W.codeIn K cd12 "_law_sign" = true) (k12 : PySem.W.keepIn K (.ref f_law_sign) = true)
    (a13 : PySem.W.nsIn K mainGlobals "_law_number" = some (some (.ref f_law_number))) (l13 : K.lookup f_law_number = some ⟨oc13, od13, .func (PySem.W.fnOf "_law_number" "_law_number" (defArgs s_law_number) (defBody s_law_number) (defScope s_law_number) .none kV13 dc13 pm13 an13 cd13 ct13), sl13⟩) (c13 : PySem.W.codeIn K cd13 "_law_number" = true) (k13 : PySem.W.keepIn K (.ref f_law_number) = true)
    (a14 : PySem.W.nsIn K mainGlobals "_law_divisor" = some (some (.ref f_law_divisor))) (l14 : K.lookup f_law_divisor = some ⟨oc14, od14, .func (PySem.W.fnOf "_law_divisor" "_law_divisor" (defArgs s_law_divisor) (defBody s_law_divisor) (defScope s_law_divisor) .none kV14 dc14 pm14 an14 cd14 ct14), sl14⟩) (c14 : PySem.W.codeIn K cd14 "_law_divisor" = true) (k14 : PySem.W.keepIn K (.ref f_law_divisor) = true)
    (a15 : PySem.W.nsIn K mainGlobals "_law_value" = some (some (.ref f_law_value))) (l15 : K.lookup f_law_value = some ⟨oc15, od15, .func (PySem.W.fnOf "_law_value" "_law_value" (defArgs s_law_value) (defBody s_law_value) (defScope s_law_value) .none kV15 dc15 pm15 an15 cd15 ct15), sl15⟩) (c15 : PySem.W.codeIn K cd15 "_law_value" = true) (k15 : PySem.W.keepIn K (.ref f_law_value) = true)
    (a16 : PySem.W.nsIn K mainGlobals "_law_great" = some (some (.ref f_law_great))) (l16 : K.lookup f_law_great = some ⟨oc16, od16, .func (PySem.W.fnOf "_law_great" "_law_great" (defArgs s_law_great) (defBody s_law_great) (defScope s_law_great) .none kV16 dc16 pm16 an16 cd16 ct16), sl16⟩) (c16 : PySem.W.codeIn K cd16 "_law_great" = true) (k16 : PySem.W.keepIn K (.ref f_law_great) = true)
    (a17 : PySem.W.nsIn K mainGlobals "_law_lowest" = some (some (.ref f_law_lowest))) (l17 : K.lookup f_law_lowest = some ⟨oc17, od17, .func (PySem.W.fnOf "_law_lowest" "_law_lowest" (defArgs s_law_lowest) (defBody s_law_lowest) (defScope s_law_lowest) .none kV17 dc17 pm17 an17 cd17 ct17), sl17⟩) (c17 : PySem.W.codeIn K cd17 "_law_lowest" = true) (k17 : PySem.W.keepIn K (.ref f_law_lowest) = true)
    (a18 : PySem.W.nsIn K mainGlobals "_law_mark" = some (some (.ref f_law_mark))) (l18 : K.lookup f_law_mark = some ⟨oc18, od18, .func (PySem.W.fnOf "_law_mark" "_law_mark" (defArgs s_law_mark) (defBody s_law_mark) (defScope s_law_mark) .none kV18 dc18 pm18 an18 cd18 ct18), sl18⟩) (c18 : PySem.W.codeIn K cd18 "_law_mark" = true) (k18 : PySem.W.keepIn K (.ref f_law_mark) = true)
    (a19 : PySem.W.nsIn K mainGlobals "_law_marks" = some (some (.ref f_law_marks))) (l19 : K.lookup f_law_marks = some ⟨oc19, od19, .func (PySem.W.fnOf "_law_marks" "_law_marks" (defArgs s_law_marks) (defBody s_law_marks) (defScope s_law_marks) .none kV19 dc19 pm19 an19 cd19 ct19), sl19⟩) (c19 : PySem.W.codeIn K cd19 "_law_marks" = true) (k19 : PySem.W.keepIn K (.ref f_law_marks) = true)
    (a20 : PySem.W.nsIn K mainGlobals "_law_written" = some (some (.ref f_law_written))) (l20 : K.lookup f_law_written = some ⟨oc20, od20, .func (PySem.W.fnOf "_law_written" "_law_written" (defArgs s_law_written) (defBody s_law_written) (defScope s_law_written) .none kV20 dc20 pm20 an20 cd20 ct20), sl20⟩) (c20 : PySem.W.codeIn K cd20 "_law_written" = true) (k20 : PySem.W.keepIn K (.ref f_law_written) = true)
    (a21 : PySem.W.nsIn K mainGlobals "_law_word" = some (some (.ref f_law_word))) (l21 : K.lookup f_law_word = some ⟨oc21, od21, .func (PySem.W.fnOf "_law_word" "_law_word" (defArgs s_law_word) (defBody s_law_word) (defScope s_law_word) .none kV21 dc21 pm21 an21 cd21 ct21), sl21⟩) (c21 : PySem.W.codeIn K cd21 "_law_word" = true) (k21 : PySem.W.keepIn K (.ref f_law_word) = true)
    (a22 : PySem.W.nsIn K mainGlobals "_law_changed" = some (some (.ref f_law_changed))) (l22 : K.lookup f_law_changed = some ⟨oc22, od22, .func (PySem.W.fnOf "_law_changed" "_law_changed" (defArgs s_law_changed) (defBody s_law_changed) (defScope s_law_changed) .none kV22 dc22 pm22 an22 cd22 ct22), sl22⟩) (c22 : PySem.W.codeIn K cd22 "_law_changed" = true) (k22 : PySem.W.keepIn K (.ref f_law_changed) = true)
    (a23 : PySem.W.nsIn K mainGlobals "_law_spot" = some (some (.ref f_law_spot))) (l23 : K.lookup f_law_spot = some ⟨oc23, od23, .func (PySem.W.fnOf "_law_spot" "_law_spot" (defArgs s_law_spot) (defBody s_law_spot) (defScope s_law_spot) .none kV23 dc23 pm23 an23 cd23 ct23), sl23⟩) (c23 : PySem.W.codeIn K cd23 "_law_spot" = true) (k23 : PySem.W.keepIn K (.ref f_law_spot) = true)
    (a24 : PySem.W.nsIn K mainGlobals "_law_refused" = some (some (.ref f_law_refused))) (l24 : K.lookup f_law_refused = some ⟨oc24, od24, .func (PySem.W.fnOf "_law_refused" "_law_refused" (defArgs s_law_refused) (defBody s_law_refused) (defScope s_law_refused) .none kV24 dc24 pm24 an24 cd24 ct24), sl24⟩) (c24 : PySem.W.codeIn K cd24 "_law_refused" = true) (k24 : PySem.W.keepIn K (.ref f_law_refused) = true)
    (a25 : PySem.W.nsIn K mainGlobals "_law_good" = some (some (.ref f_law_good))) (l25 : K.lookup f_law_good = some ⟨oc25, od25, .func (PySem.W.fnOf "_law_good" "_law_good" (defArgs s_law_good) (defBody s_law_good) (defScope s_law_good) .none kV25 dc25 pm25 an25 cd25 ct25), sl25⟩) (c25 : PySem.W.codeIn K cd25 "_law_good" = true) (k25 : PySem.W.keepIn K (.ref f_law_good) = true)
    (a26 : PySem.W.nsIn K mainGlobals "_law_words" = some (some (.ref f_law_words))) (l26 : K.lookup f_law_words = some ⟨oc26, od26, .func (PySem.W.fnOf "_law_words" "_law_words" (defArgs s_law_words) (defBody s_law_words) (defScope s_law_words) .none kV26 dc26 pm26 an26 cd26 ct26), sl26⟩) (c26 : PySem.W.codeIn K cd26 "_law_words" = true) (k26 : PySem.W.keepIn K (.ref f_law_words) = true)
    (a27 : PySem.W.nsIn K mainGlobals "law" = some (some (.ref f_law))) (l27 : K.lookup f_law = some ⟨oc27, od27, .func (PySem.W.fnOf "law" "law" (defArgs s_law) (defBody s_law) (defScope s_law) .none kV27 dc27 pm27 an27 cd27 ct27), sl27⟩) (c27 : PySem.W.codeIn K cd27 "law" = true) (k27 : PySem.W.keepIn K (.ref f_law) = true)
    (ax_MissError : PySem.W.nsIn K mainGlobals "MissError" = some (some (.ref x_MissError))) (xx_MissError : PySem.W.excIn K x_MissError [.type "ValueError", .type "Exception", .type "BaseException", .type "object"] "ValueError.__new__" = true)
    (ax_NoNumber : PySem.W.nsIn K mainGlobals "NoNumber" = some (some (.ref x_NoNumber))) (xx_NoNumber : PySem.W.excIn K x_NoNumber [.type "ValueError", .type "Exception", .type "BaseException", .type "object"] "ValueError.__new__" = true)
    (ax_NoMarks : PySem.W.nsIn K mainGlobals "NoMarks" = some (some (.ref x_NoMarks))) (xx_NoMarks : PySem.W.excIn K x_NoMarks [.type "ValueError", .type "Exception", .type "BaseException", .type "object"] "ValueError.__new__" = true)
    (ax_NoText : PySem.W.nsIn K mainGlobals "NoText" = some (some (.ref x_NoText))) (xx_NoText : PySem.W.excIn K x_NoText [.type "ValueError", .type "Exception", .type "BaseException", .type "object"] "ValueError.__new__" = true)
    (ax_NoName : PySem.W.nsIn K mainGlobals "NoName" = some (some (.ref x_NoName))) (xx_NoName : PySem.W.excIn K x_NoName [.type "ValueError", .type "Exception", .type "BaseException", .type "object"] "ValueError.__new__" = true)
    (ax_NoRow : PySem.W.nsIn K mainGlobals "NoRow" = some (some (.ref x_NoRow))) (xx_NoRow : PySem.W.excIn K x_NoRow [.type "ValueError", .type "Exception", .type "BaseException", .type "object"] "ValueError.__new__" = true)
    (xkg_NoText : PySem.W.findIn K (.ref x_NoText) "__getattribute__" = some (some (.builtin "BaseException.__getattribute__")))
    (xka_NoText : PySem.W.findIn K (.ref x_NoText) "__getattr__" = some none)
    (xkc_NoText : PySem.W.findIn K (.ref x_NoText) "__class__" = some (some (.builtin "object.__class__")))
    (xko_NoText : PySem.W.subIn K (.ref x_NoText) (.type "object") = some true)
    (xkb_NoText : PySem.W.subIn K (.ref x_NoText) (.type "BaseException") = some true)
    (em_NoText_MissError : PySem.W.exmOne K (.ref x_NoText) (.ref x_MissError) = some true)
    (kt_NoText_NoText : PySem.W.kitOne K (.ref x_NoText) (.ref x_NoText) = some true)
    (kt_NoText_ValueError : PySem.W.kitOne K (.ref x_NoText) (.type "ValueError") = some true)
    (kt_NoText_NoMarks : PySem.W.kitOne K (.ref x_NoText) (.ref x_NoMarks) = some false)
    (kt_NoText_NoRow : PySem.W.kitOne K (.ref x_NoText) (.ref x_NoRow) = some false)
    (kt_NoText_NoName : PySem.W.kitOne K (.ref x_NoText) (.ref x_NoName) = some false)
    (z_ValueError : PySem.W.nsIn K mainGlobals "ValueError" = some none)
    (z_abs : PySem.W.nsIn K mainGlobals "abs" = some none)
    (z_all : PySem.W.nsIn K mainGlobals "all" = some none)
    (z_bool : PySem.W.nsIn K mainGlobals "bool" = some none)
    (z_int : PySem.W.nsIn K mainGlobals "int" = some none)
    (z_isinstance : PySem.W.nsIn K mainGlobals "isinstance" = some none)
    (z_len : PySem.W.nsIn K mainGlobals "len" = some none)
    (z_list : PySem.W.nsIn K mainGlobals "list" = some none)
    (z_mark : PySem.W.nsIn K mainGlobals "mark" = some none)
    (z_max : PySem.W.nsIn K mainGlobals "max" = some none)
    (z_min : PySem.W.nsIn K mainGlobals "min" = some none)
    (z_range : PySem.W.nsIn K mainGlobals "range" = some none)
    (z_sign : PySem.W.nsIn K mainGlobals "sign" = some none)
    (z_str : PySem.W.nsIn K mainGlobals "str" = some none)
    (z_tuple : PySem.W.nsIn K mainGlobals "tuple" = some none)
    (z_word : PySem.W.nsIn K mainGlobals "word" = some none)
    {tk_FIGURES : Tok} (zc_FIGURES : PySem.W.nsIn K mainGlobals "FIGURES" = some (some (.str "0123456789" tk_FIGURES)))
    {tk_MOST_FIGURES : Tok} (zc_MOST_FIGURES : PySem.W.nsIn K mainGlobals "MOST_FIGURES" = some (some (.int 40 tk_MOST_FIGURES)))
    {tk_MOST_MARKS : Tok} (zc_MOST_MARKS : PySem.W.nsIn K mainGlobals "MOST_MARKS" = some (some (.int 60 tk_MOST_MARKS)))
    : ∃ fd : FuncData, (∀ (s : Shared) (v : Value), BindsTo s fd ⟨[v], []⟩ [("script", v)]) ∧ ∀ base : Heap, K.In base → base.Ns mainGlobals mg → FnOk l.prog w K mg base (CXE l.prog w) 8 fa fd ["script"] (spLaw K) := by
  have e := hfa.symm.trans (PySem.W.mg_of X G a27)
  cases e
  have F0 := fun_mk (st := s_common_divisor) l0 c0 k0
  have b0 := F0.binds (ps := ["one", "other"]) fun _ _ _ _ _ _ us hl => el2 us hl fun _ _ => rfl
  have F1 := fun_mk (st := s_fraction) l1 c1 k1
  have b1 := F1.binds (ps := ["top", "bottom"]) fun _ _ _ _ _ _ us hl => el2 us hl fun _ _ => rfl
  have F2 := fun_mk (st := s_check_text) l2 c2 k2
  have b2 := F2.binds (ps := ["text"]) fun _ _ _ _ _ _ us hl => el1 us hl fun _ => rfl
  have F3 := fun_mk (st := s_is_figures) l3 c3 k3
  have b3 := F3.binds (ps := ["text"]) fun _ _ _ _ _ _ us hl => el1 us hl fun _ => rfl
  have F4 := fun_mk (st := s_read_whole) l4 c4 k4
  have b4 := F4.binds (ps := ["text"]) fun _ _ _ _ _ _ us hl => el1 us hl fun _ => rfl
  have F5 := fun_mk (st := s_read_fraction) l5 c5 k5
  have b5 := F5.binds (ps := ["text"]) fun _ _ _ _ _ _ us hl => el1 us hl fun _ => rfl
  have F6 := fun_mk (st := s_read_mark) l6 c6 k6
  have b6 := F6.binds (ps := ["text"]) fun _ _ _ _ _ _ us hl => el1 us hl fun _ => rfl
  have F7 := fun_mk (st := s_read_marks) l7 c7 k7
  have b7 := F7.binds (ps := ["text"]) fun _ _ _ _ _ _ us hl => el1 us hl fun _ => rfl
  have F8 := fun_mk (st := s_show_fraction) l8 c8 k8
  have b8 := F8.binds (ps := ["x"]) fun _ _ _ _ _ _ us hl => el1 us hl fun _ => rfl
  have F9 := fun_mk (st := s_show_mark) l9 c9 k9
  have b9 := F9.binds (ps := ["mark"]) fun _ _ _ _ _ _ us hl => el1 us hl fun _ => rfl
  have F10 := fun_mk (st := s_show_marks) l10 c10 k10
  have b10 := F10.binds (ps := ["some"]) fun _ _ _ _ _ _ us hl => el1 us hl fun _ => rfl
  have F11 := fun_mk (st := s_law_cell) l11 c11 k11
  have b11 := F11.binds (ps := ["script", "k"]) fun _ _ _ _ _ _ us hl => el2 us hl fun _ _ => rfl
  have F12 := fun_mk (st := s_law_sign) l12 c12 k12
  have b12 := F12.binds (ps := ["cell"]) fun _ _ _ _ _ _ us hl => el1 us hl fun _ => rfl
  have F13 := fun_mk (st := s_law_number) l13 c13 k13
  have b13 := F13.binds (ps := ["word"]) fun _ _ _ _ _ _ us hl => el1 us hl fun _ => rfl
  have F14 := fun_mk (st := s_law_divisor) l14 c14 k14
  have b14 := F14.binds (ps := ["one", "other"]) fun _ _ _ _ _ _ us hl => el2 us hl fun _ _ => rfl
  have F15 := fun_mk (st := s_law_value) l15 c15 k15
  have b15 := F15.binds (ps := ["word"]) fun _ _ _ _ _ _ us hl => el1 us hl fun _ => rfl
  have F16 := fun_mk (st := s_law_great) l16 c16 k16
  have b16 := F16.binds (ps := ["cell"]) fun _ _ _ _ _ _ us hl => el1 us hl fun _ => rfl
  have F17 := fun_mk (st := s_law_lowest) l17 c17 k17
  have b17 := F17.binds (ps := ["top", "bottom"]) fun _ _ _ _ _ _ us hl => el2 us hl fun _ _ => rfl
  have F18 := fun_mk (st := s_law_mark) l18 c18 k18
  have b18 := F18.binds (ps := ["cell", "other"]) fun _ _ _ _ _ _ us hl => el2 us hl fun _ _ => rfl
  have F19 := fun_mk (st := s_law_marks) l19 c19 k19
  have b19 := F19.binds (ps := ["script"]) fun _ _ _ _ _ _ us hl => el1 us hl fun _ => rfl
  have F20 := fun_mk (st := s_law_written) l20 c20 k20
  have b20 := F20.binds (ps := ["x"]) fun _ _ _ _ _ _ us hl => el1 us hl fun _ => rfl
  have F21 := fun_mk (st := s_law_word) l21 c21 k21
  have b21 := F21.binds (ps := ["mark"]) fun _ _ _ _ _ _ us hl => el1 us hl fun _ => rfl
  have F22 := fun_mk (st := s_law_changed) l22 c22 k22
  have b22 := F22.binds (ps := ["text", "cell"]) fun _ _ _ _ _ _ us hl => el2 us hl fun _ _ => rfl
  have F23 := fun_mk (st := s_law_spot) l23 c23 k23
  have b23 := F23.binds (ps := ["word"]) fun _ _ _ _ _ _ us hl => el1 us hl fun _ => rfl
  have F24 := fun_mk (st := s_law_refused) l24 c24 k24
  have b24 := F24.binds (ps := ["text", "one"]) fun _ _ _ _ _ _ us hl => el2 us hl fun _ _ => rfl
  have F25 := fun_mk (st := s_law_good) l25 c25 k25
  have b25 := F25.binds (ps := ["found", "due"]) fun _ _ _ _ _ _ us hl => el2 us hl fun _ _ => rfl
  have F26 := fun_mk (st := s_law_words) l26 c26 k26
  have b26 := F26.binds (ps := ["words"]) fun _ _ _ _ _ _ us hl => el1 us hl fun _ => rfl
  have F27 := fun_mk (st := s_law) l27 c27 k27
  have b27 := F27.binds (ps := ["script"]) fun _ _ _ _ _ _ us hl => el1 us hl fun _ => rfl
  have T : Txt K mg ⟨f_common_divisor, PySem.W.fnOf "common_divisor" "common_divisor" (defArgs s_common_divisor) (defBody s_common_divisor) (defScope s_common_divisor) .none kV0 dc0 pm0 an0 cd0 ct0, f_fraction, PySem.W.fnOf "fraction" "fraction" (defArgs s_fraction) (defBody s_fraction) (defScope s_fraction) .none kV1 dc1 pm1 an1 cd1 ct1, f_check_text, PySem.W.fnOf "check_text" "check_text" (defArgs s_check_text) (defBody s_check_text) (defScope s_check_text) .none kV2 dc2 pm2 an2 cd2 ct2, f_is_figures, PySem.W.fnOf "is_figures" "is_figures" (defArgs s_is_figures) (defBody s_is_figures) (defScope s_is_figures) .none kV3 dc3 pm3 an3 cd3 ct3, f_read_whole, PySem.W.fnOf "read_whole" "read_whole" (defArgs s_read_whole) (defBody s_read_whole) (defScope s_read_whole) .none kV4 dc4 pm4 an4 cd4 ct4, f_read_fraction, PySem.W.fnOf "read_fraction" "read_fraction" (defArgs s_read_fraction) (defBody s_read_fraction) (defScope s_read_fraction) .none kV5 dc5 pm5 an5 cd5 ct5, f_read_mark, PySem.W.fnOf "read_mark" "read_mark" (defArgs s_read_mark) (defBody s_read_mark) (defScope s_read_mark) .none kV6 dc6 pm6 an6 cd6 ct6, f_read_marks, PySem.W.fnOf "read_marks" "read_marks" (defArgs s_read_marks) (defBody s_read_marks) (defScope s_read_marks) .none kV7 dc7 pm7 an7 cd7 ct7, f_show_fraction, PySem.W.fnOf "show_fraction" "show_fraction" (defArgs s_show_fraction) (defBody s_show_fraction) (defScope s_show_fraction) .none kV8 dc8 pm8 an8 cd8 ct8, f_show_mark, PySem.W.fnOf "show_mark" "show_mark" (defArgs s_show_mark) (defBody s_show_mark) (defScope s_show_mark) .none kV9 dc9 pm9 an9 cd9 ct9, f_show_marks, PySem.W.fnOf "show_marks" "show_marks" (defArgs s_show_marks) (defBody s_show_marks) (defScope s_show_marks) .none kV10 dc10 pm10 an10 cd10 ct10, f_law_cell, PySem.W.fnOf "_law_cell" "_law_cell" (defArgs s_law_cell) (defBody s_law_cell) (defScope s_law_cell) .none kV11 dc11 pm11 an11 cd11 ct11, f_law_sign, PySem.W.fnOf "_law_sign" "_law_sign" (defArgs s_law_sign) (defBody s_law_sign) (defScope s_law_sign) .none kV12 dc12 pm12 an12 cd12 ct12, f_law_number, PySem.W.fnOf "_law_number" "_law_number" (defArgs s_law_number) (defBody s_law_number) (defScope s_law_number) .none kV13 dc13 pm13 an13 cd13 ct13, f_law_divisor, PySem.W.fnOf "_law_divisor" "_law_divisor" (defArgs s_law_divisor) (defBody s_law_divisor) (defScope s_law_divisor) .none kV14 dc14 pm14 an14 cd14 ct14, f_law_value, PySem.W.fnOf "_law_value" "_law_value" (defArgs s_law_value) (defBody s_law_value) (defScope s_law_value) .none kV15 dc15 pm15 an15 cd15 ct15, f_law_great, PySem.W.fnOf "_law_great" "_law_great" (defArgs s_law_great) (defBody s_law_great) (defScope s_law_great) .none kV16 dc16 pm16 an16 cd16 ct16, f_law_lowest, PySem.W.fnOf "_law_lowest" "_law_lowest" (defArgs s_law_lowest) (defBody s_law_lowest) (defScope s_law_lowest) .none kV17 dc17 pm17 an17 cd17 ct17, f_law_mark, PySem.W.fnOf "_law_mark" "_law_mark" (defArgs s_law_mark) (defBody s_law_mark) (defScope s_law_mark) .none kV18 dc18 pm18 an18 cd18 ct18, f_law_marks, PySem.W.fnOf "_law_marks" "_law_marks" (defArgs s_law_marks) (defBody s_law_marks) (defScope s_law_marks) .none kV19 dc19 pm19 an19 cd19 ct19, f_law_written, PySem.W.fnOf "_law_written" "_law_written" (defArgs s_law_written) (defBody s_law_written) (defScope s_law_written) .none kV20 dc20 pm20 an20 cd20 ct20, f_law_word, PySem.W.fnOf "_law_word" "_law_word" (defArgs s_law_word) (defBody s_law_word) (defScope s_law_word) .none kV21 dc21 pm21 an21 cd21 ct21, f_law_changed, PySem.W.fnOf "_law_changed" "_law_changed" (defArgs s_law_changed) (defBody s_law_changed) (defScope s_law_changed) .none kV22 dc22 pm22 an22 cd22 ct22, f_law_spot, PySem.W.fnOf "_law_spot" "_law_spot" (defArgs s_law_spot) (defBody s_law_spot) (defScope s_law_spot) .none kV23 dc23 pm23 an23 cd23 ct23, f_law_refused, PySem.W.fnOf "_law_refused" "_law_refused" (defArgs s_law_refused) (defBody s_law_refused) (defScope s_law_refused) .none kV24 dc24 pm24 an24 cd24 ct24, f_law_good, PySem.W.fnOf "_law_good" "_law_good" (defArgs s_law_good) (defBody s_law_good) (defScope s_law_good) .none kV25 dc25 pm25 an25 cd25 ct25, f_law_words, PySem.W.fnOf "_law_words" "_law_words" (defArgs s_law_words) (defBody s_law_words) (defScope s_law_words) .none kV26 dc26 pm26 an26 cd26 ct26, fa, PySem.W.fnOf "law" "law" (defArgs s_law) (defBody s_law) (defScope s_law) .none kV27 dc27 pm27 an27 cd27 ct27, x_MissError, x_NoNumber, x_NoMarks, x_NoText, x_NoName, x_NoRow⟩ := ⟨F0, PySem.W.mg_of X G a0, b0, F1, PySem.W.mg_of X G a1, b1, F2, PySem.W.mg_of X G a2, b2, F3, PySem.W.mg_of X G a3, b3, F4, PySem.W.mg_of X G a4, b4, F5, PySem.W.mg_of X G a5, b5, F6, PySem.W.mg_of X G a6, b6, F7, PySem.W.mg_of X G a7, b7, F8, PySem.W.mg_of X G a8, b8, F9, PySem.W.mg_of X G a9, b9, F10, PySem.W.mg_of X G a10, b10, F11, PySem.W.mg_of X G a11, b11, F12, PySem.W.mg_of X G a12, b12, F13, PySem.W.mg_of X G a13, b13, F14, PySem.W.mg_of X G a14, b14, F15, PySem.W.mg_of X G a15, b15, F16, PySem.W.mg_of X G a16, b16, F17, PySem.W.mg_of X G a17, b17, F18, PySem.W.mg_of X G a18, b18, F19, PySem.W.mg_of X G a19, b19, F20, PySem.W.mg_of X G a20, b20, F21, PySem.W.mg_of X G a21, b21, F22, PySem.W.mg_of X G a22, b22, F23, PySem.W.mg_of X G a23, b23, F24, PySem.W.mg_of X G a24, b24, F25, PySem.W.mg_of X G a25, b25, F26, PySem.W.mg_of X G a26, b26, F27, PySem.W.mg_of X G a27, b27, ⟨xx_MissError, PySem.W.mg_of X G ax_MissError⟩, ⟨xx_NoNumber, PySem.W.mg_of X G ax_NoNumber⟩, ⟨xx_NoMarks, PySem.W.mg_of X G ax_NoMarks⟩, ⟨xx_NoText, PySem.W.mg_of X G ax_NoText⟩, ⟨xx_NoName, PySem.W.mg_of X G ax_NoName⟩, ⟨xx_NoRow, PySem.W.mg_of X G ax_NoRow⟩, ⟨xkg_NoText, xka_NoText, xkc_NoText, xko_NoText, xkb_NoText⟩, em_NoText_MissError, kt_NoText_NoText, kt_NoText_ValueError, kt_NoText_NoMarks, kt_NoText_NoRow, kt_NoText_NoName, PySem.W.mg_none_of X G z_ValueError, PySem.W.mg_none_of X G z_abs, PySem.W.mg_none_of X G z_all, PySem.W.mg_none_of X G z_bool, PySem.W.mg_none_of X G z_int, PySem.W.mg_none_of X G z_isinstance, PySem.W.mg_none_of X G z_len, PySem.W.mg_none_of X G z_list, PySem.W.mg_none_of X G z_mark, PySem.W.mg_none_of X G z_max, PySem.W.mg_none_of X G z_min, PySem.W.mg_none_of X G z_range, PySem.W.mg_none_of X G z_sign, PySem.W.mg_none_of X G z_str, PySem.W.mg_none_of X G z_tuple, PySem.W.mg_none_of X G z_word, ⟨_, PySem.W.mg_of X G zc_FIGURES⟩, ⟨_, PySem.W.mg_of X G zc_MOST_FIGURES⟩, ⟨_, PySem.W.mg_of X G zc_MOST_MARKS⟩⟩
  exact ⟨PySem.W.fnOf "law" "law" (defArgs s_law) (defBody s_law) (defScope s_law) .none kV27 dc27 pm27 an27 cd27 ct27, fun s v => .of_eq rfl, fun base _ _ => ok_law T⟩
end My
open PySem PySem.W PyProof.Rows
set_option maxRecDepth 100000 in
set_option maxHeartbeats 0 in
theorem PySem.Challenge.cw_leastmiss_k72_marks_read_holds : PySem.Challenge.rw_leastmiss_k72_marks_read.Holds := by
  w_on; o_law; k_head; (case hw => w_witness2)
  k_fill
  refine Lx.walkB (l := PySem.Challenge.rw_leastmiss_k72_marks_read) (k := 8) rfl rfl ⟨rfl, by decide, by decide⟩ (fun w h Y => PySem.W.kIn_of Y) ?F
  case F =>
    intro w mg fa h KX G hmg
    refine' My.all_mk KX G hmg ?a0 ?l0 ?c0 ?k0 ?a1 ?l1 ?c1 ?k1 ?a2 ?l2 ?c2 ?k2 ?a3 ?l3 ?c3 ?k3 ?a4 ?l4 ?c4 ?k4 ?a5 ?l5 ?c5 ?k5 ?a6 ?l6 ?c6 ?k6 ?a7 ?l7 ?c7 ?k7 ?a8 ?l8 ?c8 ?k8 ?a9 ?l9 ?c9 ?k9 ?a10 ?l10 ?c10 ?k10 ?a11 ?l11 ?c11 ?k11 ?a12 ?l12 ?c12 ?k12 ?a13 ?l13 ?c13 ?k13 ?a14 ?l14 ?c14 ?k14 ?a15 ?l15 ?c15 ?k15 ?a16 ?l16 ?c16 ?k16 ?a17 ?l17 ?c17 ?k17 ?a18 ?l18 ?c18 ?k18 ?a19 ?l19 ?c19 ?k19 ?a20 ?l20 ?c20 ?k20 ?a21 ?l21 ?c21 ?k21 ?a22 ?l22 ?c22 ?k22 ?a23 ?l23 ?c23 ?k23 ?a24 ?l24 ?c24 ?k24 ?a25 ?l25 ?c25 ?k25 ?a26 ?l26 ?c26 ?k26 ?a27 ?l27 ?c27 ?k27 ?ax_MissError ?xx_MissError ?ax_NoNumber ?xx_NoNumber ?ax_NoMarks ?xx_NoMarks ?ax_NoText ?xx_NoText ?ax_NoName ?xx_NoName ?ax_NoRow ?xx_NoRow ?xkg_NoText ?xka_NoText ?xkc_NoText ?xko_NoText ?xkb_NoText ?em_NoText_MissError ?kt_NoText_NoText ?kt_NoText_ValueError ?kt_NoText_NoMarks ?kt_NoText_NoRow ?kt_NoText_NoName ?z_ValueError ?z_abs ?z_all ?z_bool ?z_int ?z_isinstance ?z_len ?z_list ?z_mark ?z_max ?z_min ?z_range ?z_sign ?z_str ?z_tuple ?z_word ?zc_FIGURES ?zc_MOST_FIGURES ?zc_MOST_MARKS
    (case a0 => k_is)
    (case l0 => k_is)
    (case c0 => k_is)
    (case k0 => k_is)
    (case a1 => k_is)
    (case l1 => k_is)
    (case c1 => k_is)
    (case k1 => k_is)
    (case a2 => k_is)
    (case l2 => k_is)
    (case c2 => k_is)
    (case k2 => k_is)
    (case a3 => k_is)
    (case l3 => k_is)
    (case c3 => k_is)
    (case k3 => k_is)
    (case a4 => k_is)
    (case l4 => k_is)
    (case c4 => k_is)
    (case k4 => k_is)
    (case a5 => k_is)
    (case l5 => k_is)
    (case c5 => k_is)
    (case k5 => k_is)
    (case a6 => k_is)
    (case l6 => k_is)
    (case c6 => k_is)
    (case k6 => k_is)
    (case a7 => k_is)
    (case l7 => k_is)
    (case c7 => k_is)
    (case k7 => k_is)
    (case a8 => k_is)
    (case l8 => k_is)
    (case c8 => k_is)
    (case k8 => k_is)
    (case a9 => k_is)
    (case l9 => k_is)
    (case c9 => k_is)
    (case k9 => k_is)
    (case a10 => k_is)
    (case l10 => k_is)
    (case c10 => k_is)
    (case k10 => k_is)
    (case a11 => k_is)
    (case l11 => k_is)
    (case c11 => k_is)
    (case k11 => k_is)
    (case a12 => k_is)
    (case l12 => k_is)
    (case c12 => k_is)
    (case k12 => k_is)
    (case a13 => k_is)
    (case l13 => k_is)
    (case c13 => k_is)
    (case k13 => k_is)
    (case a14 => k_is)
    (case l14 => k_is)
    (case c14 => k_is)
    (case k14 => k_is)
    (case a15 => k_is)
    (case l15 => k_is)
    (case c15 => k_is)
    (case k15 => k_is)
    (case a16 => k_is)
    (case l16 => k_is)
    (case c16 => k_is)
    (case k16 => k_is)
    (case a17 => k_is)
    (case l17 => k_is)
    (case c17 => k_is)
    (case k17 => k_is)
    (case a18 => k_is)
    (case l18 => k_is)
    (case c18 => k_is)
    (case k18 => k_is)
    (case a19 => k_is)
    (case l19 => k_is)
    (case c19 => k_is)
    (case k19 => k_is)
    (case a20 => k_is)
    (case l20 => k_is)
    (case c20 => k_is)
    (case k20 => k_is)
    (case a21 => k_is)
    (case l21 => k_is)
    (case c21 => k_is)
    (case k21 => k_is)
    (case a22 => k_is)
    (case l22 => k_is)
    (case c22 => k_is)
    (case k22 => k_is)
    (case a23 => k_is)
    (case l23 => k_is)
    (case c23 => k_is)
    (case k23 => k_is)
    (case a24 => k_is)
    (case l24 => k_is)
    (case c24 => k_is)
    (case k24 => k_is)
    (case a25 => k_is)
    (case l25 => k_is)
    (case c25 => k_is)
    (case k25 => k_is)
    (case a26 => k_is)
    (case l26 => k_is)
    (case c26 => k_is)
    (case k26 => k_is)
    (case a27 => k_is)
    (case l27 => k_is)
    (case c27 => k_is)
    (case k27 => k_is)
    (case ax_MissError => k_is)
    (case xx_MissError => k_exc)
    (case ax_NoNumber => k_is)
    (case xx_NoNumber => k_exc)
    (case ax_NoMarks => k_is)
    (case xx_NoMarks => k_exc)
    (case ax_NoText => k_is)
    (case xx_NoText => k_exc)
    (case ax_NoName => k_is)
    (case xx_NoName => k_exc)
    (case ax_NoRow => k_is)
    (case xx_NoRow => k_exc)
    (case xkg_NoText => k_is)
    (case xka_NoText => k_is)
    (case xkc_NoText => k_is)
    (case xko_NoText => k_is)
    (case xkb_NoText => k_is)
    (case em_NoText_MissError => kts_exm)
    (case kt_NoText_NoText => kit_is)
    (case kt_NoText_ValueError => kit_is)
    (case kt_NoText_NoMarks => kit_is)
    (case kt_NoText_NoRow => kit_is)
    (case kt_NoText_NoName => kit_is)
    (case z_ValueError => k_is)
    (case z_abs => k_is)
    (case z_all => k_is)
    (case z_bool => k_is)
    (case z_int => k_is)
    (case z_isinstance => k_is)
    (case z_len => k_is)
    (case z_list => k_is)
    (case z_mark => k_is)
    (case z_max => k_is)
    (case z_min => k_is)
    (case z_range => k_is)
    (case z_sign => k_is)
    (case z_str => k_is)
    (case z_tuple => k_is)
    (case z_word => k_is)
    (case zc_FIGURES => k_is)
    (case zc_MOST_FIGURES => k_is)
    (case zc_MOST_MARKS => k_is)
