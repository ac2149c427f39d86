import PyProof.Rows.All
import Wide.All
import OpenK.AllK
import Wide.FinOn
import Lean
import PyProof.EqAt
import PyProof.EqKinds
import PyProof.TupleCall
import PySem.Challenge.RW_leastmiss_k64_least_rows_walked
set_option Elab.async false
set_option linter.all false
set_option maxRecDepth 100000
set_option compiler.extract_closed false
namespace L2
open PySem PySem.Spec PyProof.Rows
noncomputable abbrev Key := Sum Int Str
noncomputable def keyIs : Key → Value → Bool
  | .inl k, v => Value.isInt k v
  | .inr x, v => Value.isStrOf x v
noncomputable def keyH (w : World) : Key → Int
  | .inl k => hashInt k
  | .inr x => hashStr w x
theorem keyIs_shape : ∀ {k : Key} {v : Value}, keyIs k v = true → (∃ i t, k = Sum.inl i ∧ v = Value.int i t) ∨ (∃ x t, k = Sum.inr x ∧ v = Value.str x t)
  | .inl i, v, h => by
    obtain ⟨t, e⟩ := Value.isInt_shape (k := i) (v := v) h
    exact .inl ⟨i, t, rfl, e⟩
  | .inr x, v, h => by
    obtain ⟨t, e⟩ := Value.isStrOf_shape (x := x) (v := v) h
    exact .inr ⟨x, t, rfl, e⟩
theorem key_ll (a b : Int) : decide ((Sum.inl a : Key) = Sum.inl b) = (a == b) := by
  by_cases e : a = b
  · subst e; simp
  · have h : ¬ (Sum.inl a : Key) = Sum.inl b := fun q => e (Sum.inl.inj q)
    rw [decide_eq_false h]
    exact (beq_eq_false_iff_ne.mpr e).symm
theorem key_rr (a b : Str) : decide ((Sum.inr a : Key) = Sum.inr b) = decide (a = b) := by
  by_cases e : a = b
  · subst e; simp
  · have h : ¬ (Sum.inr a : Key) = Sum.inr b := fun q => e (Sum.inr.inj q)
    rw [decide_eq_false h, decide_eq_false e]
theorem key_lr (a : Int) (b : Str) : decide ((Sum.inl a : Key) = Sum.inr b) = false := decide_eq_false (fun q => nomatch q)
theorem key_rl (a : Str) (b : Int) : decide ((Sum.inr a : Key) = Sum.inl b) = false := decide_eq_false (fun q => nomatch q)
noncomputable def mixKind (prog : Program) (w : World) : PySem.KeyKind prog w Key where
  is := keyIs
  hash := keyH w
  inj := fun v a b ha hb => by
    rcases keyIs_shape ha with ⟨i, t, rfl, rfl⟩ | ⟨x, t, rfl, rfl⟩
    · rcases keyIs_shape hb with ⟨j, u, rfl, e⟩ | ⟨y, u, rfl, e⟩
      · injection e with e1 _; rw [e1]
      · exact nomatch e
    · rcases keyIs_shape hb with ⟨j, u, rfl, e⟩ | ⟨y, u, rfl, e⟩
      · exact nomatch e
      · injection e with e1 _; rw [e1]
  byValue := fun k v h => by
    rcases keyIs_shape h with ⟨i, t, rfl, rfl⟩ | ⟨x, t, rfl, rfl⟩ <;> rfl
  pyHash := fun hv h => by
    rcases keyIs_shape hv with ⟨i, t, rfl, rfl⟩ | ⟨x, t, rfl, rfl⟩
    · exact wpAny_pyHash_int h
    · exact wpAny_pyHash_str h
  eqBool := fun hu hv h => by
    rcases keyIs_shape hu with ⟨i, t, rfl, rfl⟩ | ⟨x, t, rfl, rfl⟩
    · rcases keyIs_shape hv with ⟨j, u, rfl, rfl⟩ | ⟨y, u, rfl, rfl⟩
      · rw [key_ll] at h; exact wpAny_eqBool_int h
      · rw [key_lr] at h; exact SeqAt.EqAt.int_str i t y u _ _ _ _ h
    · rcases keyIs_shape hv with ⟨j, u, rfl, rfl⟩ | ⟨y, u, rfl, rfl⟩
      · rw [key_rl] at h; exact SeqAt.EqAt.str_int x t j u _ _ _ _ h
      · rw [key_rr] at h; exact wpAny_eqBool_str h
  «strs» := fun k x t v h => by
    rcases keyIs_shape h with ⟨i, u, rfl, e⟩ | ⟨y, u, rfl, e⟩
    · exact nomatch e
    · injection e with e1 _
      subst e1
      cases v <;> rfl
end L2
namespace L2
open PySem PySem.Spec PyProof.Rows
inductive V where
  | non | bl (b : Bool) | int (i : Int) | str (x : Str) | byt (b : Array UInt8) | flt (b : UInt64) | ref (a : Addr) | ty (n : String)
  deriving DecidableEq
noncomputable def RelV : V → Value → Prop
  | .non, u => u = Value.none
  | .bl b, u => u = Value.bool b
  | .int i, u => ∃ t, u = Value.int i t
  | .str x, u => ∃ t, u = Value.str x t
  | .byt b, u => ∃ t, u = Value.bytes b t
  | .flt b, u => ∃ t, u = Value.float b t
  | .ref a, u => u = Value.ref a
  | .ty n, u => u = Value.type n
noncomputable abbrev Vals : List V → List Value → Prop := Paired RelV
theorem Vals.length {xs : List V} {us : List Value} (r : Vals xs us) : xs.length = us.length := Paired.length r
theorem Vals.get : ∀ {xs : List V} {us : List Value} {i : Nat} {x : V}, Vals xs us → xs[i]? = some x → ∃ u, us[i]? = some u ∧ RelV x u
  | _, _, _, _, .nil, e => by simp at e
  | _, _, 0, _, .cons r _, e => by simp at e; subst e; exact ⟨_, rfl, r⟩
  | _, _, i + 1, x, .cons _ t, e => by
    obtain ⟨u, h1, h2⟩ := Vals.get (i := i) (x := x) t (by simpa using e)
    exact ⟨u, by simpa using h1, h2⟩
theorem Vals.set {x : V} {u : Value} (r : RelV x u) : ∀ {xs : List V} {us : List Value} (i : Nat), Vals xs us → Vals (xs.set i x) (us.set i u)
  | _, _, _, .nil => .nil
  | _, _, 0, .cons _ t => .cons r t
  | _, _, i + 1, .cons q t => .cons q (Vals.set r i t)
theorem Vals.append : ∀ {xs ys : List V} {us ws : List Value}, Vals xs us → Vals ys ws → Vals (xs ++ ys) (us ++ ws)
  | _, _, _, _, .nil, s => s
  | _, _, _, _, .cons r t, s => .cons r (Vals.append t s)
theorem Vals.take : ∀ {xs : List V} {us : List Value} (n : Nat), Vals xs us → Vals (xs.take n) (us.take n)
  | _, _, 0, _ => .nil
  | _, _, _ + 1, .nil => .nil
  | _, _, n + 1, .cons r t => .cons r (Vals.take n t)
theorem Vals.drop : ∀ {xs : List V} {us : List Value} (n : Nat), Vals xs us → Vals (xs.drop n) (us.drop n)
  | _, _, 0, r => r
  | _, _, _ + 1, .nil => .nil
  | _, _, n + 1, .cons _ t => Vals.drop n t
noncomputable def RelO : Option V → Option Value → Prop
  | some v, some u => RelV v u
  | none, none => True
  | _, _ => False
noncomputable def KV {κ : Type} : List (κ × V) → List (κ × Value) → Prop := Paired fun (p : κ × V) (q : κ × Value) => p.1 = q.1 ∧ RelV p.2 q.2
noncomputable def kV : Key → V
  | .inl i => .int i
  | .inr x => .str x
inductive HO where
    | lst (xs : List V)
    | tup (xs : List V)
    | dK (kvs : List (Key × V)) | dT (kvs : List (List Key × V))
    | set (S : Int → Bool) (n : Nat)
    | ins (C dx : Addr) (fs : List (Str × V))
    | own (x : Addr)
    | xd (fs : List (Str × V))
    | met (f x : Addr)
    | rng (lo hi : Int)
    | frz (o : Obj) (u : HO)
    | tbl (ps : Array Value)
    | ext (φ : Heap → Prop)
noncomputable abbrev Hp := Addr → Option HO
noncomputable def upd (H : Hp) (a : Addr) (o : HO) : Hp := fun b => if b = a then some o else H b
theorem upd_same {H : Hp} {a : Addr} {o : HO} : upd H a o a = some o := by unfold upd; rw [if_pos rfl]
theorem upd_ne {H : Hp} {a b : Addr} {o : HO} (h : b ≠ a) : upd H a o b = H b := by unfold upd; rw [if_neg h]
theorem ne_of_none {H : Hp} {a b : Addr} {o : HO} (h : H a = some o) (h' : H b = none) : a ≠ b := by
  intro e; subst e; rw [h] at h'; cases h'
section
variable (P : Program) (w : World)
noncomputable def ObjOk (H : Hp) (h : Heap) (a : Addr) : HO → Prop
  | .lst xs => xs.length ≤ sizeLine ∧ ∃ (its : List Value) (n : Nat), Vals xs its ∧ h.get? a = some { cls := .type "list", data := .seq its.toArray n }
  | .tup xs => xs.length ≤ sizeLine ∧ ∃ its : List Value, Vals xs its ∧ IsTup h a its.toArray
  | .dK kvs => kvs.length ≤ sizeLine ∧ (a == sysModules) = false ∧ ∃ vs, KV kvs vs ∧ h.DictOf (mixKind P w) a vs
  | .dT kvs => kvs.length ≤ sizeLine ∧ (a == sysModules) = false ∧ ∃ xs : List (List Key × Addr × Value),
      Paired (fun (p : List Key × V) (q : List Key × Addr × Value) => p.1 = q.1 ∧ H q.2.1 = some (.tup (p.1.map kV)) ∧ RelV p.2 q.2.2) kvs xs ∧
      ∃ o es ep, h.get? a = some o ∧ o.ExactDict ∧ o.data = .dict es ep ∧ es.toList = xs.map (entryOfKey (tupleKind (mixKind P w))) ∧ (xs.map (·.1)).Nodup
  | .set S n => h.SetOf (intKind P w) a S n
  | .ins C dx fs => H dx = some (.own a) ∧ fs.length ≤ 1000 ∧ dx ≠ a ∧ h.get? a = some (PySem.W.instObj C dx) ∧
      ∃ mA, h.Ns1 dx mA ∧ (∀ f, RelO (fs.lookup f) (mA f)) ∧ PySem.Within mA (fs.map (·.1))
  | .own _ => ∃ o, h.get? a = some o
  | .xd fs => ∃ mA, h.Ns1 a mA ∧ ∀ f, RelO (fs.lookup f) (mA f)
  | .rng lo hi => ∃ t u v, h.get? a = some { cls := .type "range", data := .fields #[.int lo t, .int hi u, .int 1 v] }
  | .frz o u => h.get? a = some o ∧ ObjOk H h a u
  | .tbl ps => h.get? a = some { cls := .none, data := .fields ps }
  | .met f x => h.get? a = some (PySem.W.methodObj (.ref f) (.ref x))
  | .ext φ => φ h ∧ (∃ o, h.get? a = some o) ∧ ∀ h1 h2 : Heap, φ h1 → (∀ o, h1.get? a = some o → h2.get? a = some o) → φ h2
noncomputable def HOk (H : Hp) (h : Heap) : Prop := ∀ a o, H a = some o → ObjOk P w H h a o
end
section
variable {P : Program} {w : World} {H H' : Hp} {h h' : Heap} {a : Addr} {o : HO}
theorem ObjOk.lt (x : ObjOk P w H h a o) : a < h.objs.size := by
  cases o with
  | lst xs => obtain ⟨_, _, _, _, e⟩ := x; exact Heap.lt_size e
  | tup xs => obtain ⟨_, _, _, p⟩ := x; exact p.lt
  | dK kvs => obtain ⟨_, _, _, _, o, _, _, e, _⟩ := x; exact Heap.lt_size e
  | dT kvs => obtain ⟨_, _, _, _, o, _, _, e, _⟩ := x; exact Heap.lt_size e
  | set S n => obtain ⟨o, _, _, _, e, _⟩ := x; exact Heap.lt_size e
  | ins C dx fs => obtain ⟨_, _, _, e, _⟩ := x; exact Heap.lt_size e
  | own y => obtain ⟨_, e⟩ := x; exact Heap.lt_size e
  | xd fs => obtain ⟨_, ⟨_, _, _, e, _⟩, _⟩ := x; exact Heap.lt_size e
  | rng lo hi => obtain ⟨_, _, _, e⟩ := x; exact Heap.lt_size e
  | frz ob u => obtain ⟨e, _⟩ := x; exact Heap.lt_size e
  | tbl ps => exact Heap.lt_size (show h.get? a = some _ from x)
  | met f y => exact Heap.lt_size (show h.get? a = some _ from x)
  | ext φ => obtain ⟨_, ⟨_, e⟩, _⟩ := x; exact Heap.lt_size e
theorem Paired.mapP {α β : Type} {F G : α → β → Prop} : ∀ {l₁ : List α} {l₂ : List β}, Paired F l₁ l₂ → (∀ a b, F a b → G a b) → Paired G l₁ l₂
  | _, _, .nil, _ => .nil
  | _, _, .cons r t, f => .cons (f _ _ r) (Paired.mapP t f)
theorem ObjOk.stay (x : ObjOk P w H h a o) (k : ∀ b u, (b = a ∨ H b = some (.own a)) → h.get? b = some u → h'.get? b = some u)
    (ho : ∀ b, H b = some (.own a) → H' b = some (.own a)) (ht : ∀ b xs, H b = some (.tup xs) → H' b = some (.tup xs)) : ObjOk P w H' h' a o := by
  induction o with
  | lst xs => obtain ⟨z, its, n, r, e⟩ := x; exact ⟨z, its, n, r, k _ _ (.inl rfl) e⟩
  | tup xs => obtain ⟨z, its, r, ob, e, c⟩ := x; exact ⟨z, its, r, ob, k _ _ (.inl rfl) e, c⟩
  | dK kvs => obtain ⟨z, y, vs, r, ob, es, ep, e, c⟩ := x; exact ⟨z, y, vs, r, ob, es, ep, k _ _ (.inl rfl) e, c⟩
  | dT kvs =>
    obtain ⟨z, y, xs, r, ob, es, ep, e, c⟩ := x
    exact ⟨z, y, xs, Paired.mapP r fun p q z => ⟨z.1, ht _ _ z.2.1, z.2.2⟩, ob, es, ep, k _ _ (.inl rfl) e, c⟩
  | set S n => obtain ⟨ob, es, ep, t, e, c⟩ := x; exact ⟨ob, es, ep, t, k _ _ (.inl rfl) e, c⟩
  | ins C dx fs =>
    obtain ⟨d, z, ne, e, mA, ⟨od, es, ep, e2, c⟩, r⟩ := x
    exact ⟨ho _ d, z, ne, k _ _ (.inl rfl) e, mA, ⟨od, es, ep, k _ _ (.inr d) e2, c⟩, r⟩
  | own y => obtain ⟨ob, e⟩ := x; exact ⟨ob, k _ _ (.inl rfl) e⟩
  | xd fs => obtain ⟨mA, ⟨od, es, ep, e, c⟩, r⟩ := x; exact ⟨mA, ⟨od, es, ep, k _ _ (.inl rfl) e, c⟩, r⟩
  | rng lo hi => obtain ⟨t, u, v, e⟩ := x; exact ⟨t, u, v, k _ _ (.inl rfl) e⟩
  | frz ob u ih => obtain ⟨e, q⟩ := x; exact ⟨k _ _ (.inl rfl) e, ih q⟩
  | tbl ps =>
    have e : h.get? a = some { cls := .none, data := .fields ps } := x
    show h'.get? a = some { cls := .none, data := .fields ps }
    exact k a _ (.inl rfl) e
  | met f y =>
    have e : h.get? a = some (PySem.W.methodObj (.ref f) (.ref y)) := x
    show h'.get? a = some (PySem.W.methodObj (.ref f) (.ref y))
    exact k a _ (.inl rfl) e
  | ext φ => obtain ⟨p, ⟨o, e⟩, st⟩ := x; exact ⟨st _ _ p fun o q => k _ _ (.inl rfl) q, ⟨o, k _ _ (.inl rfl) e⟩, st⟩
theorem HOk.lt (x : HOk P w H h) (e : H a = some o) : a < h.objs.size := (x a o e).lt
theorem HOk.fresh (x : HOk P w H h) (e : h.objs.size ≤ a) : H a = none := by
  cases q : H a with
  | none => rfl
  | some u => exact absurd (Nat.lt_of_lt_of_le (x.lt q) e) (Nat.lt_irrefl _)
theorem HOk.kept (x : HOk P w H h) (k : ∀ b u, h.get? b = some u → h'.get? b = some u) : HOk P w H h' := fun a o e =>
  (x a o e).stay (fun b u _ q => k b u q) (fun _ q => q) fun _ _ q => q
theorem HOk.laid (x : HOk P w H h) (k : ∀ b u, h.get? b = some u → h'.get? b = some u) (hp : h.objs.size ≤ a) (new : ObjOk P w (upd H a o) h' a o) : HOk P w (upd H a o) h' := fun b u e => by
  have hn := x.fresh hp
  by_cases hb : b = a
  · subst hb; rw [upd_same] at e; cases e; exact new
  · rw [upd_ne hb] at e
    exact (x b u e).stay (fun c v _ q => k c v q) (fun c q => by rw [upd_ne (ne_of_none q hn)]; exact q) fun c xs q => by rw [upd_ne (ne_of_none q hn)]; exact q
end
noncomputable def Rd (H : Hp) (a : Addr) (u : HO) : Prop := H a = some u ∨ ∃ o, H a = some (.frz o u)
theorem Rd.of {H : Hp} {a : Addr} {u : HO} (h : H a = some u) : Rd H a u := .inl h
theorem Rd.ok {P : Program} {w : World} {H : Hp} {h : Heap} {a : Addr} {u : HO} (r : Rd H a u) (x : HOk P w H h) : ObjOk P w H h a u := by
  rcases r with r | ⟨o, r⟩
  · exact x a u r
  · obtain ⟨_, q⟩ := x a _ r
    exact q
noncomputable def Mut : Option HO → Prop
  | some (.lst _) => True
  | some (.dK _) => True
  | some (.dT _) => True
  | some (.set _ _) => True
  | some (.ins _ _ _) => True
  | some (.ext _) => True
  | _ => False
section
variable {P : Program} {w : World} {H : Hp} {h h' : Heap} {x e : Addr} {o' : HO}
theorem HOk.write (ok : HOk P w H h) (mu : Mut (H x)) (he : e = x ∨ H e = some (.own x)) (k : ∀ b u, b ≠ e → h.get? b = some u → h'.get? b = some u) (heo : ∃ u, h'.get? e = some u)
    (new : ObjOk P w (upd H x o') h' x o') : HOk P w (upd H x o') h' := fun b u q => by
  have nown : ∀ c y, H c = some (.own y) → c ≠ x := fun c y r z => by subst z; rw [r] at mu; exact mu
  have ntup : ∀ c xs, H c = some (.tup xs) → c ≠ x := fun c xs r z => by subst z; rw [r] at mu; exact mu
  by_cases hb : b = x
  · subst hb; rw [upd_same] at q; cases q; exact new
  · rw [upd_ne hb] at q
    by_cases hbe : b = e
    · have q' : H b = some (.own x) := by
        rcases he with z | z
        · exact absurd (hbe.trans z) hb
        · rw [hbe]; exact z
      rw [q] at q'; cases q'
      obtain ⟨v, hv⟩ := heo
      exact ⟨v, by rw [hbe]; exact hv⟩
    · refine (ok b u q).stay (fun c v hc r => k c v ?_ r) (fun c r => by rw [upd_ne (nown c b r)]; exact r) fun c xs r => by rw [upd_ne (ntup c xs r)]; exact r
      rcases hc with rfl | hc
      · exact hbe
      · rintro rfl
        rcases he with z | z
        · exact nown c b hc z
        · rw [hc] at z; cases z; exact hb rfl
end
structure Un (fs ex : List Addr) (H H' : Hp) (h h' : Heap) : Prop where
  keep : ∀ b o, h.get? b = some o → H b = none → b ∉ fs → b ∉ ex → h'.get? b = some o
  slot : ∀ b o, h.get? b = some o → H b = none → b ∈ fs → b ∉ ex → ∃ sl, h'.get? b = some { o with slots := sl }
  free : ∀ b o, h.get? b = some o → H b = none → b ∉ ex → H' b = none
  there : ∀ b o, h.get? b = some o → b ∉ ex → ∃ o', h'.get? b = some o'
  tups : ∀ b xs, H b = some (.tup xs) → H' b = some (.tup xs)
  frzs : ∀ b o u, H b = some (.frz o u) → H' b = some (.frz o u)
  tbls : ∀ b ps, H b = some (.tbl ps) → ∃ more, H' b = some (.tbl (ps ++ more))
section
variable {fs fs' ex ex' : List Addr} {H H1 H2 : Hp} {h h1 h2 h' : Heap} {a x e : Addr} {o : HO}
theorem Un.any (u : Un fs ex H H1 h h1) {b : Addr} {ob : Obj} (q : h.get? b = some ob) (n : H b = none) (hx : b ∉ ex) : ∃ sl, h1.get? b = some { ob with slots := sl } := by
  by_cases hb : b ∈ fs
  · exact u.slot b ob q n hb hx
  · exact ⟨ob.slots, u.keep b ob q n hb hx⟩
theorem Un.trans (a : Un fs ex H H1 h h1) (b : Un fs ex H1 H2 h1 h2) : Un fs ex H H2 h h2 where
  keep := fun c ob q n hc hx => b.keep c ob (a.keep c ob q n hc hx) (a.free c ob q n hx) hc hx
  slot := fun c ob q n hc hx => by
    obtain ⟨sl, e1⟩ := a.slot c ob q n hc hx
    obtain ⟨sl', e2⟩ := b.slot c _ e1 (a.free c ob q n hx) hc hx
    exact ⟨sl', e2⟩
  free := fun c ob q n hx => by
    obtain ⟨o', e1⟩ := a.there c ob q hx
    exact b.free c o' e1 (a.free c ob q n hx) hx
  there := fun c ob q hx => by
    obtain ⟨o', e1⟩ := a.there c ob q hx
    exact b.there c o' e1 hx
  tups := fun c xs q => b.tups c xs (a.tups c xs q)
  frzs := fun c ob xs q => b.frzs c ob xs (a.frzs c ob xs q)
  tbls := fun c ps q => by
    obtain ⟨m1, e1⟩ := a.tbls c ps q
    obtain ⟨m2, e2⟩ := b.tbls c _ e1
    exact ⟨m1 ++ m2, by rw [e2, Array.append_assoc]⟩
theorem Un.kept (k : ∀ b u, h.get? b = some u → h'.get? b = some u) : Un fs ex H H h h' :=
  ⟨fun b ob q _ _ _ => k b ob q, fun b ob q _ _ _ => ⟨ob.slots, k b ob q⟩, fun _ _ _ n _ => n, fun b ob q _ => ⟨ob, k b ob q⟩, fun _ _ q => q, fun _ _ _ q => q, fun _ ps q => ⟨#[], by rw [q]; simp⟩⟩
theorem Un.refl : Un fs ex H H h h := Un.kept fun _ _ q => q
theorem Un.laid (k : ∀ b u, h.get? b = some u → h'.get? b = some u) (hp : h.objs.size ≤ a) (hn : H a = none) : Un fs ex H (upd H a o) h h' where
  keep := fun b u q _ _ _ => k b u q
  slot := fun b u q _ _ _ => ⟨u.slots, k b u q⟩
  free := fun b u q n _ => by rw [upd_ne (Nat.ne_of_lt (Nat.lt_of_lt_of_le (Heap.lt_size q) hp))]; exact n
  there := fun b u q _ => ⟨u, k b u q⟩
  tups := fun b xs q => by rw [upd_ne (ne_of_none q hn)]; exact q
  frzs := fun b u xs q => by rw [upd_ne (ne_of_none q hn)]; exact q
  tbls := fun b ps q => ⟨#[], by rw [upd_ne (ne_of_none q hn), q]; simp⟩
theorem Un.write (mu : Mut (H x)) (he : e = x ∨ H e = some (.own x)) (k : ∀ b u, b ≠ e → h.get? b = some u → h'.get? b = some u) (heo : ∃ u, h'.get? e = some u) : Un fs ex H (upd H x o) h h' := by
  have hx : ∀ b, H b = none → b ≠ x := fun b n z => by subst z; rw [n] at mu; exact mu
  have hb : ∀ b, H b = none → b ≠ e := fun b n z => by
    subst z
    rcases he with r | r
    · exact hx b n r
    · rw [n] at r; cases r
  have hm : ∀ b u, H b = some u → ¬ Mut (some u) → b ≠ x := fun b u q nm z => by subst z; rw [q] at mu; exact nm mu
  refine ⟨fun b u q n _ _ => k b u (hb b n) q, fun b u q n _ _ => ⟨u.slots, k b u (hb b n) q⟩, fun b u q n _ => by rw [upd_ne (hx b n)]; exact n, fun b u q _ => ?_,
    fun b xs q => by rw [upd_ne (hm b _ q fun z => z)]; exact q, fun b u xs q => by rw [upd_ne (hm b _ q fun z => z)]; exact q, fun b ps q => ⟨#[], by rw [upd_ne (hm b _ q fun z => z), q]; simp⟩⟩
  by_cases hbe : b = e
  · subst hbe; exact heo
  · exact ⟨u, k b u hbe q⟩
end
noncomputable def trk (h : Heap) (H : Hp) : List Addr := (List.range h.objs.size).filter fun a => (H a).isSome
noncomputable def hidT (h : Heap) (H : Hp) : Heap := PySem.W.hideAll h (trk h H)
theorem hidT_size (h : Heap) (H : Hp) : (hidT h H).objs.size = h.objs.size := PySem.W.hideAll_size _ _
theorem hidT_get {h : Heap} {H : Hp} {b : Addr} {o : Obj} (e : h.get? b = some o) (n : H b = none) : (hidT h H).get? b = some o :=
  PySem.W.hideAll_get _ e fun hm => by
    have q : (H b).isSome = true := (List.mem_filter.mp hm).2
    rw [n] at q; simp at q
theorem of_hidT {h : Heap} {H : Hp} {b : Addr} {o : Obj} (e : (hidT h H).get? b = some o) : h.get? b = some o ∧ H b = none := by
  have e' : h.get? b = some o := PySem.W.of_hideAll (trk h H) e
  refine ⟨e', ?_⟩
  cases q : H b with
  | none => rfl
  | some x =>
    have hm : b ∈ trk h H := List.mem_filter.mpr ⟨List.mem_range.mpr (Heap.lt_size e'), by simp [q]⟩
    have z : (hidT h H).get? b = none := PySem.W.hideAll_none (trk h H) hm
    rw [z] at e; cases e
noncomputable def allNews (g h : Heap) (L : Addr) : List (Addr × Obj) := (List.range h.objs.size).filterMap fun a => if a = L ∨ (g.get? a).isSome = true then none else (h.get? a).map fun o => (a, o)
noncomputable def rest (g h : Heap) (L d : Addr) : List (Addr × Obj) := (allNews g h L).filter fun p => decide (p.1 ≠ d)
end L2
namespace L2
open PySem PySem.Spec PyProof.Rows
structure Mod (K : PySem.W.Frag) (mg : Str → Option Value) (base : Heap) : Prop where
  kin : K.In base
  glob : base.Ns mainGlobals mg
  blt : ∃ mb, base.Ns builtinsNs mb ∧ ∀ x : Str, x ≠ "__name__" → mb x = bootBuiltins x
  nolimit : base.NoLimit
structure Cx where
  prog : Program
  w : World
  K : PySem.W.Frag
  mg : Str → Option Value
  base : Heap
  A : Around
  N : List Str
  s₀ : Shared
  H₀ : Hp
  env : Env
  outer : List Env
  stack : List Env
  ex : List Addr
  fn : Str → Bool
  calm : Bool
  pn : List (Addr × Obj)
  xe : Value → Shared → Prop
noncomputable def frs (l : List Env) : List Addr := l.filterMap (·.frame)
noncomputable abbrev Cx.fs (X : Cx) : List Addr := frs X.outer
noncomputable def Vis (sc : Scope) (x : Str) : Prop := sc.names.lookup x = some .local ∨ sc.names.lookup x = some .cell ∨ sc.names.lookup x = some .free
noncomputable def Loc (sc : Scope) (x : Str) : Prop := sc.names.lookup x = some .local ∨ sc.names.lookup x = some .cell
noncomputable def Look (env : Env) (h : Heap) (m : Str → Option Value) (x : Str) (u : Value) : Prop :=
  (env.kindOf x = some .local ∧ m x = some u) ∨ ((env.kindOf x = some .cell ∨ env.kindOf x = some .free) ∧ ∃ c, env.cells.lookup x = some c ∧ h.IsCell c (some u))
structure Cx.Ok (X : Cx) : Prop where
  mod : Mod X.K X.mg X.base
  kind : X.env.scope.kind = .function
  glob : X.env.globals = mainGlobals
  blt : X.env.builtins = builtinsNs
  above : X.s₀.heap.objs.size ≤ X.env.locals
  inj : ∀ x y c, X.env.cells.lookup x = some c → X.env.cells.lookup y = some c → x = y
  has : ∀ x, (X.env.kindOf x = some .cell ∨ X.env.kindOf x = some .free) → ∃ c, X.env.cells.lookup x = some c
  cab : ∀ x c, X.fn x = true → X.env.cells.lookup x = some c → X.s₀.heap.objs.size ≤ c
  hd : X.calm = true → X.A.handled = none
  frames : X.A.frames = some X.stack
  stk : X.stack = X.outer ∨ (X.stack = X.env :: X.outer ∧ X.env.frame = some X.env.locals)
  exf : ∀ b ∈ X.ex, b ≠ X.env.locals ∧ ∀ x c, X.env.cells.lookup x = some c → c ≠ b
  bs : ∀ b o, X.base.get? b = some o → X.s₀.heap.get? b = some o ∧ X.H₀ b = none
  bsz : X.base.objs.size ≤ X.s₀.heap.objs.size
  noex : ∀ b o, X.base.get? b = some o → b ∉ X.ex
  exfs : ∀ b ∈ X.ex, b ∉ X.fs
  funs : X.s₀.heap.FunFrames X.base X.outer
  frf : ∀ b ∈ X.fs, X.H₀ b = none
structure Inv (X : Cx) (pins : List (Addr × Obj)) (σ : List (Option V)) (H : Hp) (s : Shared) : Prop where
  ok : X.Ok
  os : s.os = X.s₀.os
  bare : AllBare s.gens
  base : Un X.fs X.ex X.H₀ H X.s₀.heap s.heap
  loc : ∃ m, s.heap.Ns X.env.locals m ∧ ∀ (i : Nat) (x : Str) (v : V), X.N[i]? = some x → σ[i]? = some (some v) → Vis X.env.scope x → ∃ u, RelV v u ∧ Look X.env s.heap m x u
  cell : ∀ x c, X.env.cells.lookup x = some c → ∃ v, s.heap.IsCell c v
  free : H X.env.locals = none
  freeC : ∀ x c, X.env.cells.lookup x = some c → H c = none
  pin : ∀ p ∈ X.pn ++ pins, s.heap.get? p.1 = some p.2 ∧ H p.1 = none ∧ p.1 ≠ X.env.locals ∧ p.1 ∉ X.fs ∧ ∀ v, p.2.data ≠ .cell v
  hok : HOk X.prog X.w H s.heap
  len : σ.length = X.N.length
section
variable {X : Cx} {pins : List (Addr × Obj)} {σ : List (Option V)} {H H' : Hp} {s : Shared} {h' : Heap}
theorem Cx.Ok.nofr (ok : X.Ok) {b : Addr} {o : Obj} (e : X.base.get? b = some o) : b ∉ X.fs := fun hb => by
  have := (ok.funs.mem hb).1
  rw [e] at this; cases this
theorem Inv.bs (I : Inv X pins σ H s) : ∀ b o, X.base.get? b = some o → s.heap.get? b = some o ∧ H b = none := fun b o e =>
  ⟨I.base.keep b o (I.ok.bs b o e).1 (I.ok.bs b o e).2 (I.ok.nofr e) (I.ok.noex b o e), I.base.free b o (I.ok.bs b o e).1 (I.ok.bs b o e).2 (I.ok.noex b o e)⟩
theorem Inv.bk (I : Inv X pins σ H s) : ∀ b o, X.base.get? b = some o → s.heap.get? b = some o := fun b o e => (I.bs b o e).1
theorem Inv.mod (I : Inv X pins σ H s) : Mod X.K X.mg X.base := I.ok.mod
theorem Inv.kIn (I : Inv X pins σ H s) : X.K.In s.heap := I.ok.mod.kin.keeps I.bk
theorem Inv.nolimit (I : Inv X pins σ H s) : s.heap.NoLimit := I.ok.mod.nolimit.keeps I.bk
theorem Inv.fr (I : Inv X pins σ H s) : ∃ m, Fr X.base X.env.locals s.heap m :=
  let ⟨m, hn, _⟩ := I.loc
  ⟨m, hn, I.bk, Nat.le_trans I.ok.bsz I.ok.above⟩
theorem Inv.lt (I : Inv X pins σ H s) : X.env.locals < s.heap.objs.size := let ⟨_, hn, _⟩ := I.loc; hn.lt
theorem Inv.sz (I : Inv X pins σ H s) : X.s₀.heap.objs.size ≤ s.heap.objs.size := Nat.le_trans I.ok.above (Nat.le_of_lt I.lt)
theorem Inv.nofs (I : Inv X pins σ H s) {a : Addr} (h : s.heap.objs.size ≤ a) : a ∉ X.fs := fun hb => by
  obtain ⟨_, o, ho, _⟩ := I.ok.funs.mem hb
  exact absurd (Nat.lt_of_lt_of_le (Heap.lt_size ho) (Nat.le_trans I.sz h)) (Nat.lt_irrefl _)
theorem Inv.cne (I : Inv X pins σ H s) : ∀ x c, X.env.cells.lookup x = some c → c ≠ X.env.locals := fun x c e z => by
  obtain ⟨v, o, ho, hd⟩ := I.cell x c e
  obtain ⟨m, ⟨o', es, ep, ho', hd', _⟩, _⟩ := I.loc
  rw [z, ho'] at ho; cases ho; rw [hd'] at hd; cases hd
theorem Inv.funs (I : Inv X pins σ H s) : s.heap.FunFrames X.base X.outer := by
  have all : ∀ (l : List Env), (∀ b ∈ frs l, b ∈ X.fs) → X.s₀.heap.FunFrames X.base l → s.heap.FunFrames X.base l := by
    intro l
    induction l with
    | nil => intro _ _; trivial
    | cons env r ih =>
      intro hs hl
      obtain ⟨hk, ⟨L, o, hf, hn, ho, hd⟩, hr⟩ := hl
      have hL : L ∈ X.fs := hs L (by unfold frs; rw [List.filterMap_cons, hf]; exact List.mem_cons_self)
      obtain ⟨sl, e⟩ := I.base.slot L o ho (I.ok.frf L hL) hL fun z => I.ok.exfs L z hL
      exact ⟨hk, ⟨L, _, hf, hn, e, hd⟩, ih (fun b hb => hs b (by unfold frs; rw [List.filterMap_cons, hf]; exact List.mem_cons_of_mem _ hb)) hr⟩
  exact all X.outer (fun _ hb => hb) I.ok.funs
theorem Inv.stack (I : Inv X pins σ H s) : s.heap.FunFrames X.base X.stack := by
  rcases I.ok.stk with e | ⟨e, hf⟩
  · rw [e]; exact I.funs
  · rw [e]
    obtain ⟨m, hn, _⟩ := I.loc
    refine .cons (by rw [I.ok.kind]; decide) hf hn ?_ I.funs
    exact Heap.get?_none_of_le (Nat.le_trans I.ok.bsz I.ok.above)
theorem Inv.stkSub (I : Inv X pins σ H s) : ∀ b ∈ frs X.stack, b ∈ X.env.locals :: X.fs := fun b hb => by
  rcases I.ok.stk with e | ⟨e, hf⟩
  · rw [e] at hb; exact List.mem_cons_of_mem _ hb
  · rw [e] at hb
    unfold frs at hb
    rw [List.filterMap_cons, hf] at hb
    exact hb
theorem Inv.stkFree (I : Inv X pins σ H s) : ∀ b ∈ frs X.stack, H b = none := fun b hb => by
  rcases List.mem_cons.mp (I.stkSub b hb) with e | hb
  · rw [e]; exact I.free
  · obtain ⟨_, o, ho, _⟩ := I.ok.funs.mem hb
    exact I.base.free b o ho (I.ok.frf b hb) fun z => I.ok.exfs b z hb
theorem Inv.step {g' : Array GenState} {t' : Nat} {d' : Drawn} {ch : List Addr} (I : Inv X pins σ H s)
    (hch : ∀ b ∈ ch, (b ∈ X.ex ∨ X.s₀.heap.objs.size ≤ b) ∧ b ≠ X.env.locals ∧ (∀ x c, X.env.cells.lookup x = some c → c ≠ b) ∧ ∀ p ∈ X.pn ++ pins, p.1 ≠ b)
    (keep : ∀ b o, b ≠ X.env.locals → b ∉ X.fs → b ∉ ch → s.heap.get? b = some o → H b = none → h'.get? b = some o)
    (slot : ∀ b o, b ≠ X.env.locals → b ∈ X.fs → b ∉ ch → s.heap.get? b = some o → H b = none → ∃ sl, h'.get? b = some { o with slots := sl }) (free : ∀ b o, b ∉ ch → s.heap.get? b = some o → H b = none → H' b = none)
    (there : ∀ b o, b ∉ ch → s.heap.get? b = some o → ∃ o', h'.get? b = some o')
    (tups : ∀ b xs, H b = some (.tup xs) → H' b = some (.tup xs)) (frzs : ∀ b o u, H b = some (.frz o u) → H' b = some (.frz o u)) (tbls : ∀ b ps, H b = some (.tbl ps) → ∃ more, H' b = some (.tbl (ps ++ more)))
    (ns : ∀ m, s.heap.Ns X.env.locals m → h'.Ns X.env.locals m) (hok : HOk X.prog X.w H' h') (hg : AllBare g') :
    Inv X pins σ H' { s with heap := h', gens := g', drawn := d', toks := t' } := by
  have neL : ∀ b o, X.s₀.heap.get? b = some o → b ≠ X.env.locals := fun b o e => Nat.ne_of_lt (Nat.lt_of_lt_of_le (Heap.lt_size e) I.ok.above)
  have neC : ∀ b o, X.s₀.heap.get? b = some o → b ∉ X.ex → b ∉ ch := fun b o e hx hb => by
    rcases (hch b hb).1 with z | z
    · exact hx z
    · exact absurd (Nat.lt_of_lt_of_le (Heap.lt_size e) z) (Nat.lt_irrefl _)
  have cellK : ∀ x c, X.env.cells.lookup x = some c → ∀ v, s.heap.IsCell c v → h'.IsCell c v := fun x c e v ⟨o, ho, hd⟩ => by
    have nch : c ∉ ch := fun z => (hch c z).2.2.1 x c e rfl
    by_cases hc : c ∈ X.fs
    · obtain ⟨sl, q⟩ := slot c o (I.cne x c e) hc nch ho (I.freeC x c e)
      exact ⟨_, q, hd⟩
    · exact ⟨o, keep c o (I.cne x c e) hc nch ho (I.freeC x c e), hd⟩
  refine ⟨I.ok, I.os, hg, ⟨fun b o e n hb hx => ?_, fun b o e n hb hx => ?_, fun b o e n hx => ?_, fun b o e hx => ?_, fun b xs e => tups b xs (I.base.tups b xs e), fun b o xs e => frzs b o xs (I.base.frzs b o xs e), fun b ps e => ?_⟩, ?_, fun x c e => ?_, ?_, fun x c e => ?_, fun p hp => ?_, hok, I.len⟩
  · exact keep b o (neL b o e) hb (neC b o e hx) (I.base.keep b o e n hb hx) (I.base.free b o e n hx)
  · obtain ⟨sl, e1⟩ := I.base.slot b o e n hb hx
    obtain ⟨sl', e2⟩ := slot b _ (neL b o e) hb (neC b o e hx) e1 (I.base.free b o e n hx)
    exact ⟨sl', e2⟩
  · obtain ⟨o', e1⟩ := I.base.there b o e hx
    exact free b o' (neC b o e hx) e1 (I.base.free b o e n hx)
  · obtain ⟨o', e1⟩ := I.base.there b o e hx
    exact there b o' (neC b o e hx) e1
  · obtain ⟨m1, e1⟩ := I.base.tbls b ps e
    obtain ⟨m2, e2⟩ := tbls b _ e1
    exact ⟨m1 ++ m2, by rw [e2, Array.append_assoc]⟩
  · obtain ⟨m, hn, hl⟩ := I.loc
    refine ⟨m, ns m hn, fun i x v e1 e2 e3 => ?_⟩
    obtain ⟨u, r, l⟩ := hl i x v e1 e2 e3
    refine ⟨u, r, ?_⟩
    rcases l with l | ⟨k, c, e, z⟩
    · exact .inl l
    · exact .inr ⟨k, c, e, cellK x c e _ z⟩
  · obtain ⟨v, z⟩ := I.cell x c e
    exact ⟨v, cellK x c e v z⟩
  · obtain ⟨m, ⟨o, _, _, ho, _⟩, _⟩ := I.loc
    exact free _ o (fun z => (hch _ z).2.1 rfl) ho I.free
  · obtain ⟨v, o, ho, hd⟩ := I.cell x c e
    exact free c o (fun z => (hch c z).2.2.1 x c e rfl) ho (I.freeC x c e)
  · obtain ⟨e, n, ne, nf, d⟩ := I.pin p hp
    have nch : p.1 ∉ ch := fun z => (hch p.1 z).2.2.2 p hp rfl
    exact ⟨keep p.1 p.2 ne nf nch e n, free p.1 p.2 nch e n, ne, nf, d⟩
theorem Inv.un {t' : Nat} (I : Inv X pins σ H s) (u : Un X.fs [] H H' s.heap h') (hok : HOk X.prog X.w H' h') : Inv X pins σ H' { s with heap := h', toks := t' } := by
  obtain ⟨m, ⟨o, es, ep, ho, r⟩, _⟩ := id I.loc
  obtain ⟨sl, hL⟩ := u.any ho I.free (by simp)
  exact I.step (g' := s.gens) (d' := s.drawn) (ch := []) (fun _ z => nomatch z) (fun b o _ hb _ e n => u.keep b o e n hb (by simp)) (fun b o _ hb _ e n => u.slot b o e n hb (by simp)) (fun b o _ e n => u.free b o e n (by simp)) (fun b o _ e => u.there b o e (by simp)) u.tups u.frzs u.tbls (fun m' hm => by
    obtain ⟨o', es', ep', ho', r'⟩ := hm
    rw [ho] at ho'; cases ho'
    exact ⟨_, es', ep', hL, r'⟩) hok I.bare
theorem Inv.call {g' : Array GenState} {t' : Nat} {d' : Drawn} {ch : List Addr} (I : Inv X pins σ H s) (u : Un (frs X.stack) ch H H' s.heap h') (hok : HOk X.prog X.w H' h') (hg : AllBare g')
    (hch : ∀ b ∈ ch, (b ∈ X.ex ∨ X.s₀.heap.objs.size ≤ b) ∧ b ≠ X.env.locals ∧ (∀ x c, X.env.cells.lookup x = some c → c ≠ b) ∧ ∀ p ∈ X.pn ++ pins, p.1 ≠ b) :
    Inv X pins σ H' { s with heap := h', gens := g', drawn := d', toks := t' } := by
  obtain ⟨m, ⟨o, es, ep, ho, r⟩, _⟩ := id I.loc
  obtain ⟨sl, hL⟩ := u.any ho I.free fun z => (hch _ z).2.1 rfl
  exact I.step (ch := ch) hch (fun b o hL hb hc e n => u.keep b o e n (fun z => (List.mem_cons.mp (I.stkSub b z)).elim hL hb) hc) (fun b o _ _ hc e n => u.any e n hc) (fun b o hc e n => u.free b o e n hc) (fun b o hc e => u.there b o e hc) u.tups u.frzs u.tbls (fun m' hm => by
    obtain ⟨o', es', ep', ho', r'⟩ := hm
    rw [ho] at ho'; cases ho'
    exact ⟨_, es', ep', hL, r'⟩) hok hg
theorem Inv.turned {t' : Nat} {it : Addr} (I : Inv X pins σ H s) (k : ∀ b o, b ≠ it → s.heap.get? b = some o → h'.get? b = some o) (hn : H it = none) (hL : it ≠ X.env.locals)
    (h1 : it ∈ X.ex ∨ X.s₀.heap.objs.size ≤ it) (h2 : ∀ x c, X.env.cells.lookup x = some c → c ≠ it) (h3 : ∀ p ∈ X.pn ++ pins, p.1 ≠ it) : Inv X pins σ H { s with heap := h', toks := t' } := by
  have nit : ∀ b u, H b = some u → b ≠ it := fun b u e z => by rw [z, hn] at e; cases e
  refine I.step (g' := s.gens) (d' := s.drawn) (ch := [it]) (fun b hb => ?_) (fun b o _ _ hc e _ => k b o (fun z => hc (by simp [z])) e) (fun b o _ _ hc e _ => ⟨o.slots, k b o (fun z => hc (by simp [z])) e⟩) (fun _ _ _ _ n => n)
    (fun b o hc e => ⟨o, k b o (fun z => hc (by simp [z])) e⟩) (fun _ _ e => e) (fun _ _ _ e => e) (fun b ps e => ⟨#[], by rw [e]; simp⟩) (fun m hm => ?_) (fun b u e => ?_) I.bare
  · have e : b = it := by simpa using hb
    subst e
    exact ⟨h1, hL, h2, h3⟩
  · obtain ⟨o, es, ep, ho, r⟩ := hm
    exact ⟨o, es, ep, k _ o (Ne.symm hL) ho, r⟩
  · refine (I.hok b u e).stay (fun c v hc q => k c v ?_ q) (fun _ q => q) fun _ _ q => q
    rcases hc with z | z
    · rw [z]; exact nit b u e
    · exact nit c _ z
theorem Inv.tok (I : Inv X pins σ H s) (t : Nat) : Inv X pins σ H { s with toks := t } := I.un (h' := s.heap) (t' := t) Un.refl I.hok
theorem Inv.kept {t' : Nat} (I : Inv X pins σ H s) (k : ∀ b u, s.heap.get? b = some u → h'.get? b = some u) : Inv X pins σ H { s with heap := h', toks := t' } := I.un (Un.kept k) (I.hok.kept k)
theorem Inv.laid {a : Addr} {o : HO} {t' : Nat} (I : Inv X pins σ H s) (k : ∀ b u, s.heap.get? b = some u → h'.get? b = some u) (hp : s.heap.objs.size ≤ a) (new : ObjOk X.prog X.w (upd H a o) h' a o) :
    Inv X pins σ (upd H a o) { s with heap := h', toks := t' } := I.un (Un.laid k hp (I.hok.fresh hp)) (I.hok.laid k hp new)
theorem Inv.write {x e : Addr} {o : HO} {t' : Nat} (I : Inv X pins σ H s) (mu : Mut (H x)) (he : e = x ∨ H e = some (.own x)) (k : ∀ b u, b ≠ e → s.heap.get? b = some u → h'.get? b = some u) (heo : ∃ u, h'.get? e = some u)
    (new : ObjOk X.prog X.w (upd H x o) h' x o) : Inv X pins σ (upd H x o) { s with heap := h', toks := t' } := I.un (Un.write mu he k heo) (I.hok.write mu he k heo new)
theorem Inv.pins_of {pins' : List (Addr × Obj)} (I : Inv X pins σ H s) (h : ∀ p ∈ pins', s.heap.get? p.1 = some p.2 ∧ H p.1 = none ∧ p.1 ≠ X.env.locals ∧ p.1 ∉ X.fs ∧ ∀ v, p.2.data ≠ .cell v) : Inv X pins' σ H s :=
  ⟨I.ok, I.os, I.bare, I.base, I.loc, I.cell, I.free, I.freeC, fun p hp => (List.mem_append.mp hp).elim (fun z => I.pin p (List.mem_append_left _ z)) (h p), I.hok, I.len⟩
theorem nodup_ix {N : List Str} (hN : N.Nodup) {i j : Nat} {x : Str} (a : N[i]? = some x) (b : N[j]? = some x) : i = j := by
  obtain ⟨h1, e1⟩ := List.getElem?_eq_some_iff.mp a
  obtain ⟨h2, e2⟩ := List.getElem?_eq_some_iff.mp b
  exact (List.getElem_inj hN).mp (e1.trans e2.symm)
theorem store_ok2 {M : Model} {A : Around} {E : Value → Shared → Prop} {i : Nat} {x : Str} {v : V} {u : Value} {Q : Unit → Shared → Prop} (I : Inv X pins σ H s) (hN : X.N.Nodup) (hi : X.N[i]? = some x) (hx : Loc X.env.scope x) (r : RelV v u)
    (h : ∀ s', Inv X pins (σ.set i (some v)) H s' → (∃ a, Heap.SameBut a s.heap s'.heap ∧ (a = X.env.locals ∨ X.env.cells.lookup x = some a)) → Q () s') (hf : X.fn x = true ∨ X.env.scope.names.lookup x = some .local := by first | exact .inl rfl | exact .inr rfl | assumption) : wpAny M A (storeName X.env x u) Q E s := by
  obtain ⟨m, hn, hl⟩ := id I.loc
  have hcls : (X.env.scope.kind == .class || (X.env.scope.kind == .module && X.env.locals != X.env.globals)) = false := by rw [I.ok.kind]; rfl
  have hiσ : i < σ.length := by rw [I.len]; exact (List.getElem?_eq_some_iff.mp hi).1
  have cne := I.cne
  have tracked : ∀ {a : Addr} {h' : Heap}, (∃ o, s.heap.get? a = some o ∧ H a = none) → Heap.SameBut a s.heap h' → HOk X.prog X.w H h' := fun {a h'} ha hs b ob e => by
    obtain ⟨_, _, hfree⟩ := ha
    refine (I.hok b ob e).stay (fun c w' hc q => (hs.2 c ?_).trans q) (fun _ q => q) fun _ _ q => q
    rintro rfl
    rcases hc with rfl | hc
    · rw [hfree] at e; cases e
    · rw [hfree] at hc; cases hc
  rcases hx with hk | hk
  · refine wpAny_storeName_local hk hn (fun h' hn' hs => ?_) hcls
    obtain ⟨oL, _, _, hoL, _⟩ := id hn
    refine h _ ⟨I.ok, I.os, I.bare, ⟨fun b o e n hb hx => ?_, fun b o e n hb hx => ?_, I.base.free, fun b o e hx => ?_, I.base.tups, I.base.frzs, I.base.tbls⟩, ⟨_, hn', fun j y v' e1 e2 e3 => ?_⟩, fun y c e => ?_, I.free, I.freeC, fun p hp => ?_, tracked ⟨oL, hoL, I.free⟩ hs, by simpa using I.len⟩ ⟨_, hs, .inl rfl⟩
    · exact (hs.2 b (Nat.ne_of_lt (Nat.lt_of_lt_of_le (Heap.lt_size e) I.ok.above))).trans (I.base.keep b o e n hb hx)
    · obtain ⟨sl, e1⟩ := I.base.slot b o e n hb hx
      exact ⟨sl, (hs.2 b (Nat.ne_of_lt (Nat.lt_of_lt_of_le (Heap.lt_size e) I.ok.above))).trans e1⟩
    · obtain ⟨o', e1⟩ := I.base.there b o e hx
      exact ⟨o', (hs.2 b (Nat.ne_of_lt (Nat.lt_of_lt_of_le (Heap.lt_size e) I.ok.above))).trans e1⟩
    · by_cases hj : j = i
      · subst hj
        rw [hi] at e1; cases e1
        rw [List.getElem?_set_self hiσ] at e2
        cases e2
        exact ⟨u, r, .inl ⟨hk, by simp⟩⟩
      · rw [List.getElem?_set_ne (Ne.symm hj)] at e2
        obtain ⟨u', r', q⟩ := hl j y v' e1 e2 e3
        refine ⟨u', r', ?_⟩
        rcases q with ⟨k, e⟩ | ⟨k, c, e, z⟩
        · refine .inl ⟨k, ?_⟩
          have : y ≠ x := fun e => hj (nodup_ix hN e1 (e ▸ hi))
          simp [this, e]
        · exact .inr ⟨k, c, e, z.sameBut hs (cne y c e)⟩
    · obtain ⟨w', z⟩ := I.cell y c e
      exact ⟨w', z.sameBut hs (cne y c e)⟩
    · obtain ⟨e, n, ne, nf, d⟩ := I.pin p hp
      exact ⟨(hs.2 p.1 ne).trans e, n, ne, nf, d⟩
  · have hfn : X.fn x = true := by
      rcases hf with z | z
      · exact z
      · rw [z] at hk; cases hk
    obtain ⟨c, hc⟩ := I.ok.has x (.inl hk)
    obtain ⟨w', z⟩ := I.cell x c hc
    refine wpAny_storeName_cell I.ok.kind hk hc z (fun h' hc' hs => ?_)
    obtain ⟨oc, hoc, hocd⟩ := id z
    refine h { s with heap := h' } ⟨I.ok, I.os, I.bare, ⟨fun b o e n hb hx => ?_, fun b o e n hb hx => ?_, I.base.free, fun b o e hx => ?_, I.base.tups, I.base.frzs, I.base.tbls⟩, ⟨m, hn.sameBut hs (Ne.symm (cne x c hc)), fun j y v' e1 e2 e3 => ?_⟩, fun y c' e => ?_, I.free, I.freeC, fun p hp => ?_, tracked ⟨oc, hoc, I.freeC x c hc⟩ hs, by simpa using I.len⟩ ⟨c, hs, .inr hc⟩
    · exact (hs.2 b (Nat.ne_of_lt (Nat.lt_of_lt_of_le (Heap.lt_size e) (I.ok.cab x c hfn hc)))).trans (I.base.keep b o e n hb hx)
    · obtain ⟨sl, e1⟩ := I.base.slot b o e n hb hx
      exact ⟨sl, (hs.2 b (Nat.ne_of_lt (Nat.lt_of_lt_of_le (Heap.lt_size e) (I.ok.cab x c hfn hc)))).trans e1⟩
    · obtain ⟨o', e1⟩ := I.base.there b o e hx
      exact ⟨o', (hs.2 b (Nat.ne_of_lt (Nat.lt_of_lt_of_le (Heap.lt_size e) (I.ok.cab x c hfn hc)))).trans e1⟩
    · by_cases hj : j = i
      · subst hj
        rw [hi] at e1; cases e1
        rw [List.getElem?_set_self hiσ] at e2
        cases e2
        exact ⟨u, r, .inr ⟨.inl hk, c, hc, hc'⟩⟩
      · rw [List.getElem?_set_ne (Ne.symm hj)] at e2
        obtain ⟨u', r', q⟩ := hl j y v' e1 e2 e3
        refine ⟨u', r', ?_⟩
        rcases q with q | ⟨k, c', e, z'⟩
        · exact .inl q
        · refine .inr ⟨k, c', e, z'.sameBut hs ?_⟩
          rintro rfl
          exact hj (nodup_ix hN e1 (I.ok.inj _ _ _ e hc ▸ hi))
    · by_cases hcc : c' = c
      · subst hcc; exact ⟨_, hc'⟩
      · obtain ⟨w2, z2⟩ := I.cell y c' e
        exact ⟨w2, z2.sameBut hs hcc⟩
    · obtain ⟨e, n, ne, nf, d⟩ := I.pin p hp
      refine ⟨(hs.2 p.1 ?_).trans e, n, ne, nf, d⟩
      intro q
      rw [q, hoc] at e
      have q' : oc = p.2 := Option.some.inj e
      exact d w' (by rw [← q']; exact hocd)
theorem store_ok {M : Model} {A : Around} {E : Value → Shared → Prop} {i : Nat} {x : Str} {v : V} {u : Value} {Q : Unit → Shared → Prop} (I : Inv X pins σ H s) (hN : X.N.Nodup) (hi : X.N[i]? = some x) (hx : Loc X.env.scope x) (r : RelV v u)
    (h : ∀ s', Inv X pins (σ.set i (some v)) H s' → Q () s') (hf : X.fn x = true ∨ X.env.scope.names.lookup x = some .local := by first | exact .inl rfl | exact .inr rfl | assumption) : wpAny M A (storeName X.env x u) Q E s :=
  store_ok2 I hN hi hx r (fun s' I' _ => h s' I') hf
theorem Inv.call' {s' : Shared} {ch : List Addr} (I : Inv X pins σ H s) (ho : s'.os = s.os) (u : Un (frs X.stack) ch H H' s.heap s'.heap) (hok : HOk X.prog X.w H' s'.heap) (hg : AllBare s'.gens)
    (hch : ∀ b ∈ ch, (b ∈ X.ex ∨ X.s₀.heap.objs.size ≤ b) ∧ b ≠ X.env.locals ∧ (∀ x c, X.env.cells.lookup x = some c → c ≠ b) ∧ ∀ p ∈ X.pn ++ pins, p.1 ≠ b) : Inv X pins σ H' s' := by
  obtain ⟨h', g', d', t', o'⟩ := s'
  have e : o' = s.os := ho
  subst e
  exact I.call (g' := g') (t' := t') (d' := d') u hok hg hch
end
noncomputable abbrev XK := Value → Option Addr → Hp → Prop
noncomputable abbrev St := List (Option V)
noncomputable abbrev VK := V → Hp → Prop
noncomputable abbrev TE := St → Hp → VK → Prop
noncomputable abbrev TT := St → Hp → (Bool → Hp → Prop) → Prop
noncomputable abbrev TA := St → Hp → (List V → Hp → Prop) → Prop
structure Ends where
  nx : St → Hp → Prop
  rt : VK
  bk : St → Hp → Prop := fun _ _ => False
  ct : St → Hp → Prop := fun _ _ => False
noncomputable abbrev TS := Ends → St → Hp → Prop
noncomputable def EP (X : Cx) (pins : List (Addr × Obj)) (σ : St) (Q : VK) (u : Value) (s' : Shared) : Prop := ∃ v H', Inv X pins σ H' s' ∧ RelV v u ∧ Q v H'
noncomputable def TP (X : Cx) (pins : List (Addr × Obj)) (σ : St) (Q : Bool → Hp → Prop) (b : Bool) (s' : Shared) : Prop := ∃ H', Inv X pins σ H' s' ∧ Q b H'
noncomputable def AP (X : Cx) (pins : List (Addr × Obj)) (σ : St) (Q : List V → Hp → Prop) (us : List Value) (s' : Shared) : Prop := ∃ vs H', Inv X pins σ H' s' ∧ Vals vs us ∧ Q vs H'
noncomputable def SP (X : Cx) (pins : List (Addr × Obj)) (D : Ends) (f : Flow) (s' : Shared) : Prop :=
  match f with
  | .next => ∃ σ' H', Inv X pins σ' H' s' ∧ D.nx σ' H'
  | .brk => ∃ σ' H', Inv X pins σ' H' s' ∧ D.bk σ' H'
  | .cont => ∃ σ' H', Inv X pins σ' H' s' ∧ D.ct σ' H'
  | .ret u => ∃ v σ' H', Inv X pins σ' H' s' ∧ RelV v u ∧ D.rt v H'
noncomputable def PE (X : Cx) (e : Expr) (t : TE) : Prop :=
  ∀ (pins : List (Addr × Obj)) (s : Shared) (σ : St) (H : Hp) (Q : VK), Inv X pins σ H s → t σ H Q → wpAny (model X.prog X.w) X.A (eval e X.env) (EP X pins σ Q) X.xe s
noncomputable def PT (X : Cx) (e : Expr) (t : TT) : Prop :=
  ∀ (pins : List (Addr × Obj)) (s : Shared) (σ : St) (H : Hp) (Q : Bool → Hp → Prop), Inv X pins σ H s → t σ H Q → wpAny (model X.prog X.w) X.A (isTrue e X.env (eval e X.env)) (TP X pins σ Q) X.xe s
noncomputable def PW (X : Cx) (e : Expr) (t : TT) : Prop :=
  ∀ (whole : Sem Value) (pins : List (Addr × Obj)) (s : Shared) (σ : St) (H : Hp) (Q : Bool → Hp → Prop), Inv X pins σ H s → t σ H Q → wpAny (model X.prog X.w) X.A (isTrue e X.env whole) (TP X pins σ Q) X.xe s
theorem PW.pt {X : Cx} {e : Expr} {t : TT} (h : PW X e t) : PT X e t := h _
noncomputable def PA (X : Cx) (es : List Expr) (t : TA) : Prop :=
  ∀ (pos : Pos) (pins : List (Addr × Obj)) (s : Shared) (σ : St) (H : Hp) (Q : List V → Hp → Prop), Inv X pins σ H s → t σ H Q → wpAny (model X.prog X.w) X.A (spliced (backTo pos (starEach es X.env))) (AP X pins σ Q) X.xe s
noncomputable def PS (X : Cx) (st : Stmt) (t : TS) : Prop :=
  ∀ (pins : List (Addr × Obj)) (s : Shared) (σ : St) (H : Hp) (D : Ends), Inv X pins σ H s → t D σ H → wpAny (model X.prog X.w) X.A (exec st X.env) (SP X pins D) X.xe s
noncomputable def PSs (X : Cx) (st : List Stmt) (t : TS) : Prop :=
  ∀ (pins : List (Addr × Obj)) (s : Shared) (σ : St) (H : Hp) (D : Ends), Inv X pins σ H s → t D σ H → wpAny (model X.prog X.w) X.A (execs st X.env) (SP X pins D) X.xe s
theorem thn {α : Type} {t : Sem α} {Q Q' : α → Shared → Prop} {M : Model} {A : Around} {E : Value → Shared → Prop} {s : Shared} (h : wpAny M A t Q E s) (hQ : ∀ a s, Q a s → Q' a s) : wpAny M A t Q' E s := wpAny_mono h hQ fun _ _ x => x
end L2
namespace L2
open PySem PySem.Spec PyProof.Rows
section
variable {X : Cx}
theorem bin {a b : Expr} {ta tb : TE} (ha : PE X a ta) (hb : PE X b tb) {pins : List (Addr × Obj)} {s : Shared} {σ : St} {H : Hp} {R : V → V → Hp → Prop} (I : Inv X pins σ H s) (h : ta σ H fun x H1 => tb σ H1 fun y H2 => R x y H2)
    {α : Type} {Q : α → Shared → Prop} {f : Value → Value → Sem α}
    (hf : ∀ v u s2 x y H2, Inv X pins σ H2 s2 → RelV x v → RelV y u → R x y H2 → wpAny (model X.prog X.w) X.A (f v u) Q X.xe s2) :
    wpAny (model X.prog X.w) X.A (eval a X.env) (fun v s₁ => wpAny (model X.prog X.w) X.A (eval b X.env) (fun u s₂ => wpAny (model X.prog X.w) X.A (f v u) Q X.xe s₂) X.xe s₁) X.xe s := by
  refine thn (ha pins s σ H _ I h) fun v s1 ⟨x, H1, I1, r1, q1⟩ => ?_
  refine thn (hb pins s1 σ H1 _ I1 q1) fun u s2 ⟨y, H2, I2, r2, q2⟩ => ?_
  exact hf v u s2 x y H2 I2 r1 r2 q2
noncomputable def tVar (i : Nat) : TE := fun σ H Q => ∃ v, σ[i]? = some (some v) ∧ Q v H
noncomputable def tC (v : V) : TE := fun _ H Q => Q v H
theorem pe_var {i : Nat} {x : Str} {pos : Pos} (hN : X.N[i]? = some x) (hv : Vis X.env.scope x) (hd : (x == ("__debug__" : Str)) = false := by decide) (hcd : (x == ("__classdict__" : Str)) = false := by decide) : PE X (.Name x pos) (tVar i) := by
  intro pins s σ H Q I h
  obtain ⟨v, e, h⟩ := h
  obtain ⟨m, hn, hl⟩ := I.loc
  obtain ⟨u, r, l⟩ := hl i x v hN e hv
  have fin : EP X pins σ Q u s := ⟨v, H, I, r, h⟩
  rcases l with ⟨hk, hm⟩ | ⟨hk, c, hc, hcell⟩
  · exact wpAny_Name (wpAny_loadName_local I.ok.kind hk hn hm fin) hd
  · rcases hk with hk | hk
    · exact wpAny_Name (wpAny_loadName_cell I.ok.kind hk hc hcell fin) hd
    · exact wpAny_Name (wpAny_loadName_free I.ok.kind hk hc hcell fin hcd) hd
theorem pe_int {i j pos} : PE X (.Constant (.int i) j pos) (tC (.int i)) := fun _ _ _ H _ I h => wpAny_Constant_int ⟨.int i, H, I.tok _, ⟨_, rfl⟩, h⟩
theorem pe_bl {b j pos} : PE X (.Constant (.bool b) j pos) (tC (.bl b)) := fun _ _ _ H _ I h => Constant_bool ⟨.bl b, H, I, rfl, h⟩
theorem pe_non {j pos} : PE X (.Constant .none j pos) (tC .non) := fun _ _ _ H _ I h => Constant_none ⟨.non, H, I, rfl, h⟩
theorem pe_str {x j pos} : PE X (.Constant (.str x) j pos) (tC (.str x)) := fun _ _ _ H _ I h => Calls.Constant_str ⟨.str x, H, I.tok _, ⟨_, rfl⟩, h⟩
noncomputable def Gl (X : Cx) (x : Str) : Prop := X.env.kindOf x = some .globalImplicit
theorem ld_glob {E : Value → Shared → Prop} {pins : List (Addr × Obj)} {s : Shared} {σ : St} {H : Hp} {x : Str} {u : Value} {pos : Pos} {Q : Value → Shared → Prop} (I : Inv X pins σ H s) (hg : Gl X x) (hm : X.mg x = some u) (h : Q u s)
    (hd : (x == ("__debug__" : Str)) = false := by decide) : wpAny (model X.prog X.w) X.A (eval (.Name x pos) X.env) Q E s :=
  Calls.Name_function_global I.ok.kind hg (Calls.loadGlobal_global (by rw [I.ok.glob]; exact I.mod.glob.keeps I.bk) hm h) hd
theorem ld_blt {E : Value → Shared → Prop} {pins : List (Addr × Obj)} {s : Shared} {σ : St} {H : Hp} {x : Str} {u : Value} {pos : Pos} {Q : Value → Shared → Prop} (I : Inv X pins σ H s) (hg : Gl X x) (hm : X.mg x = none) (hv : bootBuiltins x = some u) (h : Q u s)
    (hn : x ≠ "__name__" := by decide) (hd : (x == ("__debug__" : Str)) = false := by decide) : wpAny (model X.prog X.w) X.A (eval (.Name x pos) X.env) Q E s := by
  obtain ⟨mb, h1, h2⟩ := I.mod.blt
  exact Calls.Name_function_global I.ok.kind hg (Calls.loadGlobal_builtin (by rw [I.ok.glob]; exact I.mod.glob.keeps I.bk) hm (by rw [I.ok.blt]; exact h1.keeps I.bk) ((h2 x hn).trans hv) h) hd
theorem pe_glob {x : Str} {v : V} {u : Value} {pos : Pos} (hg : Gl X x) (hm : X.mg x = some u) (r : RelV v u) (hd : (x == ("__debug__" : Str)) = false := by decide) : PE X (.Name x pos) (tC v) :=
  fun _ _ _ H _ I h => ld_glob I hg hm ⟨v, H, I, r, h⟩ hd
theorem pe_bltn {x : Str} {v : V} {u : Value} {pos : Pos} (hg : Gl X x) (hm : X.mg x = none) (hv : bootBuiltins x = some u) (r : RelV v u) (hn : x ≠ "__name__" := by decide) (hd : (x == ("__debug__" : Str)) = false := by decide) : PE X (.Name x pos) (tC v) :=
  fun _ _ _ H _ I h => ld_blt I hg hm hv ⟨v, H, I, r, h⟩ hn hd
variable {a b : Expr} {ta tb : TE} {pos : Pos}
noncomputable def tB (t : TE) : TT := fun σ H Q => t σ H fun x H1 => ∃ c, x = .bl c ∧ Q c H1
theorem pt_val {e : Expr} {t : TE} (h : PE X e t) (he : ∀ whole, isTrue e X.env whole = (do let v ← whole; standAt e.pos; holding [v] (truthy v)) := by intro _; rfl) : PT X e (tB t) := by
  intro pins s σ H Q I hw
  refine isTrue_plain (thn (h pins s σ H _ I hw) fun v s1 ⟨x, H1, I1, r1, q1⟩ => ?_) (he _)
  obtain ⟨d, rfl, q⟩ := q1
  cases r1
  exact wpAny_truthy_bool ⟨H1, I1, q⟩
variable {tA tB' : TT} {rest : List Expr}
noncomputable def tAnd (t u : TT) : TT := fun σ H Q => t σ H fun c H1 => if c = true then u σ H1 Q else Q false H1
noncomputable def tOr (t u : TT) : TT := fun σ H Q => t σ H fun c H1 => if c = true then Q true H1 else u σ H1 Q
noncomputable def tNot (t : TT) : TT := fun σ H Q => t σ H fun c H1 => Q (!c) H1
theorem pw_and1 (ha : PT X a tA) : PW X (.BoolOp .And [a] pos) tA := by
  intro wh pins s σ H Q I h
  refine isTrue_and (thn (ha pins s σ H Q I h) fun c s1 e => ?_)
  cases c with
  | true => exact isTrue_and_nil e
  | false => exact e
theorem pw_or1 (ha : PT X a tA) : PW X (.BoolOp .Or [a] pos) tA := by
  intro wh pins s σ H Q I h
  refine isTrue_or (thn (ha pins s σ H Q I h) fun c s1 e => ?_)
  cases c with
  | false => exact isTrue_or_nil e
  | true => exact e
theorem pw_and (ha : PT X a tA) (hb : PW X (.BoolOp .And (b :: rest) pos) tB') : PW X (.BoolOp .And (a :: b :: rest) pos) (tAnd tA tB') := by
  intro wh pins s σ H Q I h
  refine isTrue_and (thn (ha pins s σ H _ I h) fun c s1 ⟨H1, I1, q1⟩ => ?_)
  cases c with
  | true => exact hb wh pins s1 σ H1 Q I1 q1
  | false => exact ⟨H1, I1, q1⟩
theorem pw_or (ha : PT X a tA) (hb : PW X (.BoolOp .Or (b :: rest) pos) tB') : PW X (.BoolOp .Or (a :: b :: rest) pos) (tOr tA tB') := by
  intro wh pins s σ H Q I h
  refine isTrue_or (thn (ha pins s σ H _ I h) fun c s1 ⟨H1, I1, q1⟩ => ?_)
  cases c with
  | true => exact ⟨H1, I1, q1⟩
  | false => exact hb wh pins s1 σ H1 Q I1 q1
theorem pt_not (ha : PT X a tA) : PT X (.UnaryOp .Not a pos) (tNot tA) := by
  intro pins s σ H Q I h
  exact isTrue_not (ha pins s σ H (fun c H1 => Q (!c) H1) I h)
noncomputable def tAndV (ta tb : TE) : TE := fun σ H Q => ta σ H fun x H1 => ∃ c, x = .bl c ∧ if c = true then tb σ H1 Q else Q (.bl false) H1
noncomputable def tNotV (ta : TE) : TE := fun σ H Q => ta σ H fun x H1 => ∃ c, x = .bl c ∧ Q (.bl (!c)) H1
theorem pe_one {op} {t : TE} (h : PE X a t) : PE X (.BoolOp op [a] pos) t := fun pins s σ H Q I hw => BoolOp_one (h pins s σ H Q I hw)
theorem pe_and (ha : PE X a ta) (hb : PE X (.BoolOp .And (b :: rest) pos) tb) : PE X (.BoolOp .And (a :: b :: rest) pos) (tAndV ta tb) := by
  intro pins s σ H Q I h
  refine BoolOp_and (thn (ha pins s σ H _ I h) fun v s1 ⟨x, H1, I1, r1, q1⟩ => ?_)
  obtain ⟨c, rfl, q1⟩ := q1
  cases r1
  refine wpAny_truthy_bool ?_
  cases c with
  | true => exact hb pins s1 σ H1 Q I1 q1
  | false => exact ⟨.bl false, H1, I1, rfl, q1⟩
theorem pe_not (ha : PE X a ta) : PE X (.UnaryOp .Not a pos) (tNotV ta) := by
  intro pins s σ H Q I h
  refine UnaryOp_ (thn (ha pins s σ H _ I h) fun v s1 ⟨x, H1, I1, r1, q1⟩ => ?_)
  obtain ⟨c, rfl, q1⟩ := q1
  cases r1
  exact not_of (wpAny_truthy_bool ⟨.bl (!c), H1, I1, rfl, q1⟩)
end
end L2
namespace L2
open PySem PySem.Spec PyProof.Rows
noncomputable def SqL (K : PySem.W.Frag) (H : Hp) (a : Addr) (xs : List V) : Prop :=
  Rd H a (.lst xs) ∨
    ∃ (o : Obj) (its : Array Value) (n : Nat), K.lookup a = some o ∧ o.cls = .type "list" ∧ o.dict = none ∧ o.data = .seq its n ∧ its.size ≤ sizeLine ∧ Vals xs its.toList
noncomputable def SqT (K : PySem.W.Frag) (H : Hp) (a : Addr) (xs : List V) : Prop :=
  Rd H a (.tup xs) ∨
    ∃ (o : Obj) (its : Array Value) (n : Nat), K.lookup a = some o ∧ o.cls = .type "tuple" ∧ o.data = .seq its n ∧ its.size ≤ sizeLine ∧ Vals xs its.toList
noncomputable def absV : Value → Option V
  | .none => some .non
  | .bool b => some (.bl b)
  | .int i _ => some (.int i)
  | .str x _ => some (.str x)
  | .bytes b _ => some (.byt b)
  | .float b _ => some (.flt b)
  | .ref a => some (.ref a)
  | .type n => some (.ty n)
  | _ => none
theorem RelV.abs {x : V} {u : Value} (r : RelV x u) : absV u = some x := by
  cases x with
  | non => cases r; rfl
  | bl _ => cases r; rfl
  | int _ => obtain ⟨t, rfl⟩ := r; rfl
  | str _ => obtain ⟨t, rfl⟩ := r; rfl
  | byt _ => obtain ⟨t, rfl⟩ := r; rfl
  | flt _ => obtain ⟨t, rfl⟩ := r; rfl
  | ref _ => cases r; rfl
  | ty _ => cases r; rfl
theorem RelV.inj {x y : V} {u : Value} (r : RelV x u) (q : RelV y u) : x = y := Option.some.inj (r.abs.symm.trans q.abs)
theorem Vals.inj : ∀ {xs ys : List V} {us : List Value}, Vals xs us → Vals ys us → xs = ys
  | _, _, _, .nil, .nil => rfl
  | _, _, _, .cons r t, .cons r' t' => by rw [r.inj r', Vals.inj t t']
section
variable {X : Cx} {pins : List (Addr × Obj)} {σ : St} {H : Hp} {s : Shared} {a : Addr} {xs ys : List V}
theorem SqL.of {K : PySem.W.Frag} (h : H a = some (.lst xs)) : SqL K H a xs := .inl (.inl h)
theorem SqT.of {K : PySem.W.Frag} (h : H a = some (.tup xs)) : SqT K H a xs := .inl (.inl h)
theorem Inv.list (I : Inv X pins σ H s) (h : SqL X.K H a xs) : ∃ its : List Value, Vals xs its ∧ PlainL s.heap a its.toArray ∧ xs.length ≤ sizeLine := by
  rcases h with h | ⟨o, its, n, hk, hc, hd, hs, hz, r⟩
  · obtain ⟨z, its, n, r, e⟩ := h.ok I.hok
    exact ⟨its, r, ⟨_, n, e, rfl, rfl, rfl⟩, z⟩
  · refine ⟨its.toList, r, ⟨o, n, I.kIn a o hk, hc, hd, by simpa using hs⟩, ?_⟩
    have e := r.length
    simp only [Array.length_toList] at e
    omega
theorem Inv.tuple (I : Inv X pins σ H s) (h : SqT X.K H a xs) : ∃ its : List Value, Vals xs its ∧ IsTup s.heap a its.toArray ∧ xs.length ≤ sizeLine := by
  rcases h with h | ⟨o, its, n, hk, hc, hs, hz, r⟩
  · obtain ⟨z, its, r, p⟩ := h.ok I.hok
    exact ⟨its, r, p, z⟩
  · refine ⟨its.toList, r, ⟨o, I.kIn a o hk, hc, n, by simpa using hs⟩, ?_⟩
    have e := r.length
    simp only [Array.length_toList] at e
    omega
theorem Inv.list_inj (I : Inv X pins σ H s) (h : SqL X.K H a xs) (h' : SqL X.K H a ys) : xs = ys := by
  obtain ⟨its, r, ⟨o, n, e, _, _, d⟩, _⟩ := I.list h
  obtain ⟨its', r', ⟨o', n', e', _, _, d'⟩, _⟩ := I.list h'
  rw [e] at e'; cases e'
  rw [d] at d'
  injection d' with d1 _
  have : its = its' := by simpa using congrArg Array.toList d1
  subst this
  exact r.inj r'
end
noncomputable abbrev Cx.wish (X : Cx) (E : Value → Shared → Prop) : Cx := { X with xe := E }
noncomputable abbrev Cx.nox (X : Cx) : Cx := X.wish fun _ _ => False
theorem Cx.Ok.wish {X : Cx} (ok : X.Ok) (E : Value → Shared → Prop) : (X.wish E).Ok :=
  ⟨ok.mod, ok.kind, ok.glob, ok.blt, ok.above, ok.inj, ok.has, ok.cab, ok.hd, ok.frames, ok.stk, ok.exf, ok.bs, ok.bsz, ok.noex, ok.exfs, ok.funs, ok.frf⟩
theorem Cx.Ok.unwish {X : Cx} {E : Value → Shared → Prop} (ok : (X.wish E).Ok) : X.Ok :=
  ⟨ok.mod, ok.kind, ok.glob, ok.blt, ok.above, ok.inj, ok.has, ok.cab, ok.hd, ok.frames, ok.stk, ok.exf, ok.bs, ok.bsz, ok.noex, ok.exfs, ok.funs, ok.frf⟩
section
variable {X : Cx} {pins : List (Addr × Obj)} {σ : St} {H : Hp} {s : Shared} {E : Value → Shared → Prop}
theorem Inv.wish (I : Inv X pins σ H s) (E : Value → Shared → Prop) : Inv (X.wish E) pins σ H s := ⟨I.ok.wish E, I.os, I.bare, I.base, I.loc, I.cell, I.free, I.freeC, I.pin, I.hok, I.len⟩
theorem Inv.unwish (I : Inv (X.wish E) pins σ H s) : Inv X pins σ H s := ⟨I.ok.unwish, I.os, I.bare, I.base, I.loc, I.cell, I.free, I.freeC, I.pin, I.hok, I.len⟩
theorem SP.unwish {D : Ends} {f : Flow} {s' : Shared} (h : SP (X.wish E) pins D f s') : SP X pins D f s' := by
  cases f with
  | next => obtain ⟨σ', H', I, q⟩ := h; exact ⟨σ', H', I.unwish, q⟩
  | brk => obtain ⟨σ', H', I, q⟩ := h; exact ⟨σ', H', I.unwish, q⟩
  | cont => obtain ⟨σ', H', I, q⟩ := h; exact ⟨σ', H', I.unwish, q⟩
  | ret u => obtain ⟨v, σ', H', I, r, q⟩ := h; exact ⟨v, σ', H', I.unwish, r, q⟩
theorem PE.nox {e : Expr} {t : TE} (h : PE X.nox e t) : PE X e t := fun pins s σ H Q I hw =>
  wpAny_mono (h pins s σ H Q (I.wish _) hw) (fun _ _ ⟨v, H', I', r, q⟩ => ⟨v, H', I'.unwish, r, q⟩) fun _ _ z => False.elim z
theorem PT.nox {e : Expr} {t : TT} (h : PT X.nox e t) : PT X e t := fun pins s σ H Q I hw =>
  wpAny_mono (h pins s σ H Q (I.wish _) hw) (fun _ _ ⟨H', I', q⟩ => ⟨H', I'.unwish, q⟩) fun _ _ z => False.elim z
theorem PSs.nox {st : List Stmt} {t : TS} (h : PSs X.nox st t) : PSs X st t := fun pins s σ H D I hw =>
  wpAny_mono (h pins s σ H D (I.wish _) hw) (fun _ _ q => q.unwish) fun _ _ z => False.elim z
end
section
variable {X : Cx} {st : Stmt} {rest : List Stmt} {t u : TS} {e : Expr} {te : TE} {pos : Pos}
noncomputable def tNext : TS := fun D σ H => D.nx σ H
noncomputable def tSeq (t u : TS) : TS := fun D σ H => t { D with nx := u D } σ H
theorem pss_nil : PSs X [] tNext := fun _ _ σ H _ I h => wpAny_execs_nil ⟨σ, H, I, h⟩
theorem pss_cons (h1 : PS X st t) (h2 : PSs X rest u) : PSs X (st :: rest) (tSeq t u) := by
  intro pins s σ H D I h
  refine wpAny_execs_cons (thn (h1 pins s σ H { D with nx := u D } I h) fun f s1 q => ?_)
  cases f with
  | next =>
    obtain ⟨σ', H', I', q⟩ := q
    exact h2 pins s1 σ' H' D I' q
  | ret v => exact q
  | brk => exact q
  | cont => exact q
theorem pss_one (h1 : PS X st t) : PSs X [st] t := by
  intro pins s σ H D I h
  refine wpAny_execs_cons (thn (h1 pins s σ H D I h) fun f s1 q => ?_)
  cases f with
  | next => exact wpAny_execs_nil q
  | ret v => exact q
  | brk => exact q
  | cont => exact q
theorem Inv.quiet {pins : List (Addr × Obj)} {σ : St} {H : Hp} {s : Shared} (I : Inv X pins σ H s) : interactive X.env = false := by simp [interactive, I.ok.kind]
noncomputable def tDrop (te : TE) : TS := fun D σ H => te σ H fun _ H1 => D.nx σ H1
theorem ps_expr (he : PE X e te) (hs : swapsWith e none pos.line X.env = pure false := by rfl) : PS X (.Expr e pos) (tDrop te) := by
  intro pins s σ H D I h
  exact wpAny_Expr_any (thn (he pins s σ H _ I h) fun v s1 ⟨x, H1, I1, r1, q1⟩ => ⟨σ, H1, I1, q1⟩) I.quiet hs
noncomputable def tRet (te : TE) : TS := fun D σ H => te σ H D.rt
theorem ps_ret (he : PE X e te) : PS X (.Return (some e) pos) (tRet te) := by
  intro pins s σ H D I h
  exact wpAny_Return_some (thn (he pins s σ H _ I h) fun v s1 ⟨x, H1, I1, r1, q1⟩ => ⟨x, σ, H1, I1, r1, q1⟩)
noncomputable def tIfS (c : TT) (t u : TS) : TS := fun D σ H => c σ H fun b H1 => if b = true then t D σ H1 else u D σ H1
theorem ps_if {c : Expr} {a b : List Stmt} {tc : TT} (hc : PT X c tc) (ha : PSs X a t) (hb : PSs X b u) : PS X (.If c a b pos) (tIfS tc t u) := by
  intro pins s σ H D I h
  refine wpAny_If (thn (hc pins s σ H _ I h) fun d s1 ⟨H1, I1, q1⟩ => ?_)
  cases d with
  | true => exact ha pins s1 σ H1 D I1 q1
  | false => exact hb pins s1 σ H1 D I1 q1
end
noncomputable abbrev TG := V → St → Hp → (St → Hp → Prop) → Prop
noncomputable abbrev TGs := List V → St → Hp → (St → Hp → Prop) → Prop
noncomputable def PG (X : Cx) (target : Expr) (t : TG) : Prop :=
  ∀ (pins : List (Addr × Obj)) (s : Shared) (σ : St) (H : Hp) (v : V) (u : Value) (Q : St → Hp → Prop), Inv X pins σ H s → RelV v u → t v σ H Q →
    wpAny (model X.prog X.w) X.A (assign target X.env u) (fun _ s' => ∃ σ' H', Inv X pins σ' H' s' ∧ Q σ' H') X.xe s
noncomputable def PGs (X : Cx) (ts : List Expr) (t : TGs) : Prop :=
  ∀ (pins : List (Addr × Obj)) (s : Shared) (σ : St) (H : Hp) (vs : List V) (us : List Value) (Q : St → Hp → Prop), Inv X pins σ H s → Vals vs us → t vs σ H Q →
    wpAny (model X.prog X.w) X.A (assignInOrder ((assignEach ts X.env).map (·.2)) us) (fun _ s' => ∃ σ' H', Inv X pins σ' H' s' ∧ Q σ' H') X.xe s
section
variable {X : Cx} {pos : Pos}
noncomputable def gName (i : Nat) : TG := fun v σ H Q => Q (σ.set i (some v)) H
theorem pg_name {i : Nat} {x : Str} (hN : X.N.Nodup) (hi : X.N[i]? = some x) (hx : Loc X.env.scope x) (hf : X.fn x = true ∨ X.env.scope.names.lookup x = some .local := by first | exact .inl rfl | exact .inr rfl | assumption) : PG X (.Name x pos) (gName i) := by
  intro pins s σ H v u Q I r h
  exact wpAny_assign_Name (store_ok I hN hi hx r (fun s' I' => ⟨_, H, I', h⟩) hf)
noncomputable def gNil : TGs := fun vs σ H Q => vs = [] ∧ Q σ H
noncomputable def gCons (t : TG) (u : TGs) : TGs := fun vs σ H Q => ∃ v r, vs = v :: r ∧ t v σ H fun σ' H' => u r σ' H' Q
theorem pgs_nil : PGs X [] gNil := by
  intro pins s σ H vs us Q I r h
  obtain ⟨e, h⟩ := h
  subst e
  cases r
  exact assignInOrder_nil ⟨σ, H, I, h⟩
theorem pgs_cons {e : Expr} {es : List Expr} {t : TG} {u : TGs} (h1 : PG X e t) (h2 : PGs X es u)
    (hs : (assignEach (e :: es) X.env).map (·.2) = assign e X.env :: (assignEach es X.env).map (·.2) := by rfl) : PGs X (e :: es) (gCons t u) := by
  intro pins s σ H vs us Q I r h
  obtain ⟨v, vr, e1, h⟩ := h
  subst e1
  cases r with
  | cons r rr =>
    rw [hs]
    refine assignInOrder_cons (thn (h1 pins s σ H _ _ _ I r h) fun _ s1 ⟨σ1, H1, I1, q1⟩ => ?_)
    exact h2 pins s1 σ1 H1 _ _ Q I1 rr q1
noncomputable def gTup (K : PySem.W.Frag) (n : Nat) (t : TGs) : TG := fun v σ H Q => ∃ a xs, v = .ref a ∧ SqT K H a xs ∧ xs.length = n ∧ t xs σ H Q
theorem pg_tup {es : List Expr} {k : Nat} {t : TGs} {n : Nat} (hc : X.calm = true) (h : PGs X es t)
    (hn : (assignEach es X.env).length = n := by rfl) (hst : (assignEach es X.env).findIdx? (·.1) = none := by rfl) : PG X (.Tuple es k pos) (gTup X.K n t) := by
  intro pins s σ H v u Q I r hw
  obtain ⟨a, xs, e1, hq, hl, hw⟩ := hw
  subst e1
  cases r
  obtain ⟨its, rv, ht, hz⟩ := I.tuple hq
  refine assign_Tuple_tuple (I.ok.hd hc) ht (by simp [hn, ← hl, rv.length]) hst fun h' hx => ?_
  have I1 : Inv X pins σ H { s with heap := h' } := I.kept (t' := s.toks) fun b o e => hx b o (Nat.ne_of_lt (Heap.lt_size e)) e
  exact h pins _ σ H xs _ Q I1 (by simpa using rv) hw
noncomputable def tAsg (te : TE) (g : TG) : TS := fun D σ H => te σ H fun x H1 => g x σ H1 D.nx
theorem ps_asg {tg e : Expr} {te : TE} {g : TG} (he : PE X e te) (hg : PG X tg g) (hs : swapsWithSole [tg] e pos.line X.env = pure false := by rfl) (hw : swappedStores [tg] e X.env = pure none := by rfl)
    (h1 : (assignEach [tg] X.env).map (·.2) = [assign tg X.env] := by rfl) : PS X (.Assign [tg] e pos) (tAsg te g) := by
  intro pins s σ H D I h
  refine wpAny_Assign_stores (thn (he pins s σ H _ I h) fun v s1 ⟨x, H1, I1, r1, q1⟩ => ?_) hs hw
  rw [h1]
  exact thn (hg pins s1 σ H1 x v _ I1 r1 q1) fun _ s2 q => q
theorem ps_set {i : Nat} {x : Str} {e : Expr} {te : TE} {pos' : Pos} (hN : X.N.Nodup) (hi : X.N[i]? = some x) (hx : Loc X.env.scope x) (he : PE X e te) (hs : swapsWith e (some (.Name x pos')) pos.line X.env = pure false := by rfl) (hf : X.fn x = true ∨ X.env.scope.names.lookup x = some .local := by first | exact .inl rfl | exact .inr rfl | assumption) :
    PS X (.Assign [.Name x pos'] e pos) (tAsg te (gName i)) := by
  intro pins s σ H D I h
  refine wpAny_Assign_Name (thn (he pins s σ H _ I h) fun v s1 ⟨y, H1, I1, r1, q1⟩ => ?_) hs
  exact store_ok I1 hN hi hx r1 (fun s2 I2 => ⟨_, H1, I2, q1⟩) hf
noncomputable def tPar (i j : Nat) (ta : TA) : TS := fun D σ H => ta σ H fun vs H1 => ∃ v w, vs = [v, w] ∧ D.nx ((σ.set i (some v)).set j (some w)) H1
theorem ps_par {i j : Nat} {x y : Str} {a b : Expr} {ta : TA} {px py pt : Pos} {kt k2 pt2} (hc : X.calm = true) (hN : X.N.Nodup) (hi : X.N[i]? = some x) (hj : X.N[j]? = some y) (hij : i ≠ j)
    (hx : X.env.scope.names.lookup x = some .local) (hy : X.env.scope.names.lookup y = some .local) (ha : PA X [a, b] ta)
    (hw : swappedStores [.Tuple [.Name x px, .Name y py] kt pt] (.Tuple [a, b] k2 pt2) X.env = pure (some [x, y]))
    (hs : swapsWithSole [.Tuple [.Name x px, .Name y py] kt pt] (.Tuple [a, b] k2 pt2) pos.line X.env = pure false := by rfl) :
    PS X (.Assign [.Tuple [.Name x px, .Name y py] kt pt] (.Tuple [a, b] k2 pt2) pos) (tPar i j ta) := by
  intro pins s σ H D I h
  rw [exec_Assign_arm]
  refine wpAny_bind (wpAny_standAt ?_)
  rw [hs]
  refine wpAny_bind (wpAny_pure ?_)
  rw [if_neg (by decide)]
  refine wpAny_bind (Tuple_ (thn (ha _ pins s σ H _ I h) fun us s1 ⟨vs, H1, I1, r1, q1⟩ => ?_))
  obtain ⟨v, w, e1, q1⟩ := q1
  subst e1
  obtain ⟨u1, u2, rfl, rv, rw'⟩ : ∃ u1 u2, us = [u1, u2] ∧ RelV v u1 ∧ RelV w u2 := by
    cases r1 with
    | cons p q =>
      cases q with
      | cons p' q' =>
        cases q'
        exact ⟨_, _, rfl, p, p'⟩
  refine wpAny_newObj_type ?_ (by show 2 ≤ sizeLine; decide)
  have I2 : Inv X pins σ H1 { s1 with heap := s1.heap.push { cls := .type "tuple", data := .seq [u1, u2].toArray } } := I1.kept (t' := s1.toks) fun b o e => Heap.get?_push_of_some _ e
  rw [hw]
  refine wpAny_bind (wpAny_pure ?_)
  show wpAny (model X.prog X.w) X.A (do rule "assign.swapped-stores"; let items ← unpackItems (.ref s1.heap.objs.size) 2 none; assignInOrder [fun v => bindName X.env y v, fun v => bindName X.env x v] items.reverse; pure Flow.next) _ _ _
  refine wpAny_bind (wpAny_rule (wpAny_bind (unpackItems_tuple (items := #[u1, u2]) (I.ok.hd hc) (IsTup.new s1.heap _) fun h' hx' => ?_)))
  have I3 := I2.kept (h' := h') (t' := s1.toks) fun b o e => hx' b o (Nat.ne_of_lt (Heap.lt_size e)) e
  show wpAny _ _ (assignInOrder [fun v => bindName X.env y v, fun v => bindName X.env x v] [u2, u1] >>= fun _ => pure Flow.next) _ _ _
  refine wpAny_bind (assignInOrder_cons (wpAny_bindName (store_ok I3 hN hj (.inl hy) rw' (fun s2 I4 => ?_) (.inr hy))))
  refine assignInOrder_cons (wpAny_bindName (store_ok I4 hN hi (.inl hx) rv (fun s3 I5 => assignInOrder_nil (wpAny_pure ?_)) (.inr hx)))
  rw [List.set_comm _ _ (Ne.symm hij)] at I5
  exact ⟨_, H1, I5, q1⟩
end
section
variable {X : Cx} {pos : Pos}
noncomputable def tWhile (c : TT) (tb : TS) : TS := fun D σ H => ∃ W : Nat → St → Hp → Prop, (∃ m, W m σ H) ∧ ∀ m σ H, W m σ H →
  c σ H fun b H1 => if b = true then ∃ N : St → Hp → Prop, (∀ σ' H', N σ' H' → ∃ m', m' < m ∧ W m' σ' H') ∧ tb { D with nx := N, ct := N, bk := D.nx } σ H1 else D.nx σ H1
theorem ps_while {c : Expr} {body : List Stmt} {tc : TT} {tb : TS} (hp : PassesOwn (model X.prog X.w) X.A X.env X.xe) (hc : PT X c tc) (hb : PSs X body tb) : PS X (.While c body [] pos) (tWhile tc tb) := by
  intro pins s σ H D I h
  obtain ⟨W, ⟨m0, w0⟩, turn⟩ := h
  refine wpAny_While (codeAny_whileLoop (fun n s' => ∃ σ' H', Inv X pins σ' H' s' ∧ W n σ' H') ?_ m0 ⟨σ, H, I, w0⟩)
  rintro n s1 ⟨σ1, H1, I1, w1⟩
  refine wpAny_passesOwn hp (thn (hc pins s1 σ1 H1 _ I1 (turn n σ1 H1 w1)) fun b s2 ⟨H2, I2, q2⟩ => ?_)
  cases b with
  | true =>
    obtain ⟨N, hN, q2⟩ := q2
    rw [if_pos rfl]
    refine wpAny_passesOwn hp (thn (hb pins s2 σ1 H2 _ I2 q2) fun f s3 q3 => ?_)
    cases f with
    | next =>
      obtain ⟨σ3, H3, I3, n3⟩ := q3
      obtain ⟨m', hm, w3⟩ := hN σ3 H3 n3
      exact ⟨m', hm, σ3, H3, I3, w3⟩
    | cont =>
      obtain ⟨σ3, H3, I3, n3⟩ := q3
      obtain ⟨m', hm, w3⟩ := hN σ3 H3 n3
      exact ⟨m', hm, σ3, H3, I3, w3⟩
    | brk => exact q3
    | ret v => exact q3
  | false =>
    rw [if_neg Bool.false_ne_true]
    exact wpAny_execs_nil ⟨σ1, H2, I2, q2⟩
end
structure It where
  go : Nat → Hp → Prop
  yld : Nat → Hp → V → Hp → Prop
  stop : Nat → Hp → Prop
noncomputable def FpOk (X : Cx) (pins : List (Addr × Obj)) (H : Hp) (b : Addr) : Prop :=
  H b = none ∧ b ≠ X.env.locals ∧ b ∉ X.fs ∧ (b ∈ X.ex ∨ X.s₀.heap.objs.size ≤ b) ∧ (∀ x c, X.env.cells.lookup x = some c → c ≠ b) ∧ ∀ p ∈ X.pn ++ pins, p.1 ≠ b
theorem Inv.fpOk {X : Cx} {pins : List (Addr × Obj)} {σ : St} {H H' : Hp} {s : Shared} {b : Addr} (I : Inv X pins σ H s) (hb : s.heap.objs.size ≤ b) (hn : H' b = none) : FpOk X pins H' b := by
  refine ⟨hn, Nat.ne_of_gt (Nat.lt_of_lt_of_le I.lt hb), I.nofs hb, .inr (Nat.le_trans I.sz hb), fun x c e z => ?_, fun p hp z => ?_⟩
  · obtain ⟨v, q⟩ := I.cell x c e
    exact absurd (Nat.lt_of_lt_of_le q.lt (by rw [z]; exact hb)) (Nat.lt_irrefl _)
  · exact absurd (Nat.lt_of_lt_of_le (Heap.lt_size (I.pin p hp).1) (by rw [z]; exact hb)) (Nat.lt_irrefl _)
structure Turn (P : Program) (w : World) (K : PySem.W.Frag) (tg : Expr) (J : It) (fp : List Addr) (it : Addr) (tn : Nat → Heap → Prop) : Prop where
  mem : it ∈ fp
  obj : ∀ i h, tn i h → ∀ b ∈ fp, ∃ o, h.get? b = some o ∧ ∀ v, o.data ≠ .cell v
  keep : ∀ i h h', tn i h → (∀ b ∈ fp, ∀ o, h.get? b = some o → h'.get? b = some o) → tn i h'
  item : ∀ (X : Cx), X.prog = P → X.w = w → X.K = K → X.calm = true → ∀ (i : Nat) (pins : List (Addr × Obj)) (s : Shared) (σ : St) (H : Hp) (E : Value → Shared → Prop), Inv X pins σ H s → (∀ b ∈ fp, FpOk X pins H b) → tn i s.heap → J.go i H →
    wpAny (model P w) X.A (pyNext (.ref it)) (fun r s1 => ∃ u, r = some u ∧
      wpAny (model P w) X.A (letOwnedTupleGo tg (.ref it) u) (fun _ s2 => ∃ x H', Inv X pins σ H' s2 ∧ RelV x u ∧ J.yld i H x H' ∧ tn (i + 1) s2.heap ∧ ∀ b ∈ fp, H' b = none) E s1) E s
  done : ∀ (X : Cx), X.prog = P → X.w = w → X.K = K → X.calm = true → ∀ (i : Nat) (pins : List (Addr × Obj)) (s : Shared) (σ : St) (H : Hp) (E : Value → Shared → Prop), Inv X pins σ H s → (∀ b ∈ fp, FpOk X pins H b) → tn i s.heap → J.stop i H →
    wpAny (model P w) X.A (pyNext (.ref it)) (fun r s1 => r = none ∧ Inv X pins σ H s1) E s
  self : ∀ (A : Around) (i : Nat) (s : Shared) (Q : Value → Shared → Prop) (E : Value → Shared → Prop), tn i s.heap → Q (.ref it) s → wpAny (model P w) A (pyIter (.ref it)) Q E s
noncomputable abbrev TI := St → Hp → (It → Hp → Prop) → Prop
noncomputable def PIE (X : Cx) (pins : List (Addr × Obj)) (σ : St) (tg : Expr) (R : It → Hp → Prop) (itv : Value) (s2 : Shared) : Prop :=
  ∃ (it : Addr) (fp : List Addr) (tn : Nat → Heap → Prop) (J : It) (H' : Hp), itv = .ref it ∧ Inv X pins σ H' s2 ∧ Turn X.prog X.w X.K tg J fp it tn ∧ tn 0 s2.heap ∧ (∀ b ∈ fp, FpOk X pins H' b) ∧ R J H'
noncomputable def PI (X : Cx) (tg iter : Expr) (wi : TI) : Prop :=
  ∀ (pins : List (Addr × Obj)) (s : Shared) (σ : St) (H : Hp) (R : It → Hp → Prop), Inv X pins σ H s → wi σ H R →
    wpAny (model X.prog X.w) X.A (eval iter X.env) (fun v s1 => wpAny (model X.prog X.w) X.A (pyIter v) (PIE X pins σ tg R) X.xe s1) X.xe s
theorem go_of {M : Model} {A : Around} {E : Value → Shared → Prop} {s : Shared} {tg : Expr} {it : Addr} {u : Value} {o : Obj} {n : String} {vs : Array Value} {Q : Unit → Shared → Prop} (ho : s.heap.get? it = some o) (hc : o.cls = .type n) (hd : o.data = .fields vs)
    (hn : ["enumerate", "zip", "dict_itemiterator", "dict_reverseitemiterator", "odict_iterator", "itertools.zip_longest", "itertools.pairwise"].contains n = false) (hQ : Q () s) : wpAny M A (letOwnedTupleGo tg (.ref it) u) Q E s := by
  unfold letOwnedTupleGo
  cases tg <;> first
    | exact wpAny_pure hQ
    | (cases u <;> first
        | exact wpAny_pure hQ
        | (refine wpAny_bind (wpAny_load ho ?_)
           rw [hc, hd]
           show wpAny M A (if (["enumerate", "zip", "dict_itemiterator", "dict_reverseitemiterator", "odict_iterator", "itertools.zip_longest", "itertools.pairwise"].contains n && vs[0]? == some (rawInt _)) = true then _ else _) Q E s
           rw [if_neg (by intro h; rw [hn, Bool.false_and] at h; cases h)]
           exact wpAny_pure hQ))
noncomputable def Itl (K : PySem.W.Frag) (a : Addr) : It :=
  ⟨fun i H => ∃ xs x, SqL K H a xs ∧ xs[i]? = some x, fun i H x H' => H' = H ∧ ∀ xs, SqL K H a xs → xs[i]? = some x, fun i H => ∃ xs, SqL K H a xs ∧ xs.length ≤ i⟩
noncomputable def Itr (lo : Int) (n : Nat) : It := ⟨fun i _ => i < n, fun i H x H' => H' = H ∧ x = .int (lo + i), fun i _ => n ≤ i⟩
theorem turn_list {P : Program} {w : World} {K : PySem.W.Frag} {tg : Expr} (a it : Addr) : Turn P w K tg (Itl K a) [it] it (fun i h => h.IsListIter it a i) where
  mem := by simp
  obj := fun i h st b hb => by
    have e : b = it := by simpa using hb
    subst e
    obtain ⟨o, e, c, d⟩ := st
    exact ⟨o, e, fun v z => by rw [d] at z; cases z⟩
  keep := fun i h h' st k => st.at fun o e => k it (by simp) o e
  item := by
    intro X hP hw hK hc i pins s σ H E I hf st hg
    subst hP hw hK
    obtain ⟨xs, x, hq, hx⟩ := hg
    obtain ⟨its, rv, p, hz⟩ := I.list hq
    obtain ⟨u, hu, ru⟩ := rv.get hx
    obtain ⟨f0, f1, f2, f3, f4, f5⟩ := hf it (by simp)
    refine wpAny_pyNext_list_item st p.isList (x := u) (by simpa using hu) fun h' st' sb => ?_
    have I1 : Inv X pins σ H { s with heap := h' } := I.turned (t' := s.toks) (fun b o hb e => (sb.2 b hb).trans e) f0 f1 f3 f4 f5
    obtain ⟨o, e, c, d⟩ := id st'
    exact ⟨u, rfl, go_of (s := { s with heap := h' }) e c d (by decide) ⟨x, H, I1, ru, ⟨rfl, fun ys hy => by rw [I.list_inj hy hq]; exact hx⟩, st', fun b hb => (hf b hb).1⟩⟩
  done := by
    intro X hP hw hK hc i pins s σ H E I hf st hg
    subst hP hw hK
    obtain ⟨xs, hq, hx⟩ := hg
    obtain ⟨its, rv, p, hz⟩ := I.list hq
    obtain ⟨f0, f1, f2, f3, f4, f5⟩ := hf it (by simp)
    have hl := rv.length
    exact wpAny_pyNext_list_end (I.ok.hd hc) st p.isList (by simp; omega) fun h' eb => ⟨rfl, I.turned (t' := s.toks) (fun b o hb e => eb b o hb e) f0 f1 f3 f4 f5⟩
  self := fun _ _ _ _ _ st h => wpAny_pyIter_listiter st h
theorem turn_range {P : Program} {w : World} {K : PySem.W.Frag} {tg : Expr} (it : Addr) (lo : Int) (n : Nat) : Turn P w K tg (Itr lo n) [it] it (fun i h => IsRangeIter h it (lo + (i : Nat) * 1) ((n : Int) - (i : Nat)) 1) where
  mem := by simp
  obj := fun i h st b hb => by
    have e : b = it := by simpa using hb
    subst e
    exact ⟨_, st, fun v z => by
      have z' : Data.fields _ = Data.cell v := z
      cases z'⟩
  keep := fun i h h' st k => k it (by simp) _ st
  item := by
    intro X hP hw hK hc i pins s σ H E I hf st hg
    subst hP hw hK
    obtain ⟨f0, f1, f2, f3, f4, f5⟩ := hf it (by simp)
    have W := Walks.range (prog := X.prog) (w := X.w) (I.ok.hd hc) it lo 1 n
    refine W.item i s _ _ hg st fun v h' tk hv st' kk => ?_
    obtain ⟨t, rfl⟩ := hv
    have I1 : Inv X pins σ H { s with heap := h', toks := tk } := I.turned (fun b o hb e => kk b o (by simpa using hb) e) f0 f1 f3 f4 f5
    refine ⟨_, rfl, go_of (s := { s with heap := h', toks := tk }) (n := "range_iterator") st' rfl rfl (by decide) ⟨.int (lo + i), H, I1, ⟨t, ?_⟩, ⟨rfl, rfl⟩, st', fun b hb => (hf b hb).1⟩⟩
    rw [Int.mul_one]
  done := by
    intro X hP hw hK hc i pins s σ H E I hf st hg
    subst hP hw hK
    obtain ⟨f0, f1, f2, f3, f4, f5⟩ := hf it (by simp)
    exact wpAny_pyNext_range_end (I.ok.hd hc) st (by have : n ≤ i := hg; omega) fun h' eb => ⟨rfl, I.turned (t' := s.toks) (fun b o hb e => eb b o hb e) f0 f1 f3 f4 f5⟩
  self := fun _ _ _ _ _ st h => wpAny_pyIter_rangeiter st h
end L2
namespace L2
open PySem PySem.Spec PyProof.Rows
section
variable {X : Cx} {tg : Expr}
noncomputable def iList (K : PySem.W.Frag) (tl : TE) : TI := fun σ H R => tl σ H fun x H1 => ∃ a, x = .ref a ∧ (∃ xs, SqL K H1 a xs) ∧ R (Itl K a) H1
theorem pi_list {l : Expr} {tl : TE} (hl : PE X l tl) : PI X tg l (iList X.K tl) := by
  intro pins s σ H R I h
  refine thn (hl pins s σ H _ I h) fun v s1 ⟨x, H1, I1, r1, q1⟩ => ?_
  obtain ⟨a, e, ⟨xs, hq⟩, q⟩ := q1
  subst e
  cases r1
  obtain ⟨its, rv, p, hz⟩ := I1.list hq
  refine wpAny_pyIter_list p.isList ?_
  refine ⟨s1.heap.objs.size, [s1.heap.objs.size], _, _, H1, rfl, I1.kept (t' := s1.toks) fun b o e => Heap.get?_push_of_some _ e, turn_list a _, ⟨_, Heap.get?_push_size _ rfl, rfl, rfl⟩, fun b hb => ?_, q⟩
  have e : b = s1.heap.objs.size := by simpa using hb
  subst e
  exact I1.fpOk (Nat.le_refl _) (I1.hok.fresh (Nat.le_refl _))
theorem range_it {pins : List (Addr × Obj)} {σ : St} {H : Hp} {s : Shared} {R : It → Hp → Prop} {E : Value → Shared → Prop} {lo hi : Int} {t u v : Tok} {tk : Nat} (I : Inv X pins σ H s) (h1 : -(2 ^ 62) ≤ lo) (h2 : lo < 2 ^ 62) (h3 : -(2 ^ 62) ≤ hi) (h4 : hi < 2 ^ 62)
    (q : R (Itr lo (hi - lo).toNat) H) : wpAny (model X.prog X.w) X.A (pyIter (.ref s.heap.objs.size)) (PIE X pins σ tg R) E { s with heap := s.heap.push { cls := .type "range", data := .fields #[.int lo t, .int hi u, .int 1 v] }, toks := tk } := by
  refine wpAny_pyIter_range (IsRange.new ..) (small_one h1 h2 h3 h4) ?_
  have I1 : Inv X pins σ H { s with heap := s.heap.push { cls := .type "range", data := .fields #[.int lo t, .int hi u, .int 1 v] }, toks := tk } := I.kept fun b o e => Heap.get?_push_of_some _ e
  refine ⟨(s.heap.push { cls := .type "range", data := .fields #[.int lo t, .int hi u, .int 1 v] }).objs.size, [(s.heap.push { cls := .type "range", data := .fields #[.int lo t, .int hi u, .int 1 v] }).objs.size], _, _, H, rfl,
    I1.kept (t' := tk) fun b o e => Heap.get?_push_of_some _ e, turn_range _ lo (hi - lo).toNat, ?_, fun b hb => ?_, q⟩
  · have e1 : lo + ((0 : Nat) : Int) * 1 = lo := by simp
    have e2 : (((hi - lo).toNat : Nat) : Int) - ((0 : Nat) : Int) = Builtin.Range.rangeSize lo hi 1 := by rw [rangeSize_one]; split <;> omega
    show IsRangeIter _ _ (lo + ((0 : Nat) : Int) * 1) ((((hi - lo).toNat : Nat) : Int) - ((0 : Nat) : Int)) 1
    rw [e1, e2]
    exact Heap.get?_push_size _ rfl
  · have e : b = (s.heap.push { cls := .type "range", data := .fields #[.int lo t, .int hi u, .int 1 v] }).objs.size := by simpa using hb
    subst e
    exact I1.fpOk (Nat.le_refl _) (I1.hok.fresh (Nat.le_refl _))
noncomputable def iRng1 (ta : TA) : TI := fun σ H R => ta σ H fun vs H1 => ∃ j : Int, vs = [.int j] ∧ -(2 ^ 62) ≤ j ∧ j < 2 ^ 62 ∧ R (Itr 0 j.toNat) H1
noncomputable def iRng2 (ta : TA) : TI := fun σ H R => ta σ H fun vs H1 => ∃ i j : Int, vs = [.int i, .int j] ∧ (-(2 ^ 62) ≤ i ∧ i < 2 ^ 62 ∧ -(2 ^ 62) ≤ j ∧ j < 2 ^ 62) ∧ R (Itr i (j - i).toNat) H1
theorem pi_range1 {a : Expr} {ta : TA} {p pos : Pos} (hg : Gl X "range") (hm : X.mg "range" = none) (ha : PA X [a] ta) (hs : starEach [a] X.env = [(false, eval a X.env)] := by rfl) : PI X tg (.Call (.Name "range" p) [a] [] pos) (iRng1 ta) := by
  intro pins s σ H R I h
  refine Call_ (ld_blt I hg hm boot_range (PyProof.Rows.callWith_type1 (thn (ha pos pins s σ H _ I h) fun us s1 ⟨vs, H1, I1, r1, q1⟩ => ?_) hs rfl))
  obtain ⟨j, e, q1, q2, q⟩ := q1
  subst e
  cases r1 with
  | cons r rr =>
    cases rr
    obtain ⟨t, rfl⟩ := r
    exact call_range_1 (range_it I1 (by omega) (by omega) q1 q2 (by simpa using q))
theorem pi_range2 {a b : Expr} {ta : TA} {p pos : Pos} (hg : Gl X "range") (hm : X.mg "range" = none) (ha : PA X [a, b] ta) (hs : starEach [a, b] X.env = [(false, eval a X.env), (false, eval b X.env)] := by rfl) (hs2 : starEach [b] X.env = [(false, eval b X.env)] := by rfl) :
    PI X tg (.Call (.Name "range" p) [a, b] [] pos) (iRng2 ta) := by
  intro pins s σ H R I h
  refine Call_ (ld_blt I hg hm boot_range (PyProof.Rows.callWith_type1 (thn (ha pos pins s σ H _ I h) fun us s1 ⟨vs, H1, I1, r1, q1⟩ => ?_) (by rw [hs, hs2]) (by rw [hs2]; rfl)))
  obtain ⟨i, j, e, ⟨q1, q2, q3, q4⟩, q⟩ := q1
  subst e
  cases r1 with
  | cons r rr =>
    cases rr with
    | cons r' rr =>
      cases rr
      obtain ⟨t, rfl⟩ := r
      obtain ⟨t', rfl⟩ := r'
      exact call_range_2 (range_it I1 q1 q2 q3 q4 q)
noncomputable def tFor (wi : TI) (g : TG) (tb : TS) : TS := fun D σ H => wi σ H fun J H1 => ∃ W : Nat → Nat → St → Hp → Prop, (∃ m, W 0 m σ H1) ∧ ∀ i m σ H, W i m σ H →
  (J.stop i H ∧ D.nx σ H) ∨ (J.go i H ∧ ∃ N : St → Hp → Prop, (∀ σ' H', N σ' H' → ∃ m', m' < m ∧ W (i + 1) m' σ' H') ∧ ∀ x H', J.yld i H x H' → g x σ H' fun σ2 H2 => tb { D with nx := N, ct := N, bk := D.nx } σ2 H2)
noncomputable def pinsAt (fp : List Addr) (h : Heap) : List (Addr × Obj) := fp.filterMap fun b => (h.get? b).map fun o => (b, o)
theorem mem_pinsAt {fp : List Addr} {h : Heap} {b : Addr} {o : Obj} (hb : b ∈ fp) (e : h.get? b = some o) : (b, o) ∈ pinsAt fp h := List.mem_filterMap.mpr ⟨b, hb, by rw [e]; rfl⟩
theorem of_pinsAt {fp : List Addr} {h : Heap} {p : Addr × Obj} (hp : p ∈ pinsAt fp h) : p.1 ∈ fp ∧ h.get? p.1 = some p.2 := by
  obtain ⟨b, hb, e⟩ := List.mem_filterMap.mp hp
  cases q : h.get? b with
  | none => rw [q] at e; cases e
  | some o =>
    rw [q] at e
    have e' : (b, o) = p := Option.some.inj e
    subst e'
    exact ⟨hb, q⟩
theorem Inv.pinned {pins : List (Addr × Obj)} {σ : St} {H : Hp} {s : Shared} {fp : List Addr} (I : Inv X pins σ H s) (hf : ∀ b ∈ fp, FpOk X pins H b) (ho : ∀ b ∈ fp, ∃ o, s.heap.get? b = some o ∧ ∀ v, o.data ≠ .cell v) : Inv X (pins ++ pinsAt fp s.heap) σ H s :=
  I.pins_of fun p hp => (List.mem_append.mp hp).elim (fun z => I.pin p (List.mem_append_right _ z)) fun z => by
    obtain ⟨hb, e⟩ := of_pinsAt z
    obtain ⟨f0, f1, f2, _⟩ := hf p.1 hb
    obtain ⟨o, e', d⟩ := ho p.1 hb
    rw [e] at e'; cases e'
    exact ⟨e, f0, f1, f2, d⟩
theorem Inv.unpinned {pins pl : List (Addr × Obj)} {σ : St} {H : Hp} {s : Shared} (I : Inv X (pins ++ pl) σ H s) : Inv X pins σ H s := I.pins_of fun p hp => I.pin p (List.mem_append_right _ (List.mem_append_left _ hp))
theorem ps_for {iter : Expr} {body : List Stmt} {wi : TI} {g : TG} {tb : TS} {pos : Pos} (hp : PassesOwn (model X.prog X.w) X.A X.env X.xe) (hc : X.calm = true) (hi : PI X tg iter wi) (hg : PG X tg g) (hb : PSs X body tb)
    (hs : ∀ x, foldedSetIterable iter X.env x = pure x := by intro _; rfl) : PS X (.For tg iter body [] pos) (tFor wi g tb) := by
  intro pins s σ H D I h
  refine wpAny_For (thn (hi pins s σ H _ I h) fun v s1 h1 => thn h1 fun itv s2 h2 => ?_) hs
  obtain ⟨it, fp, tn, J, H2, e, I2, T, st2, f2, W, ⟨m0, w0⟩, turn⟩ := h2
  subst e
  have stat : ∀ {H' : Hp}, (∀ b ∈ fp, H' b = none) → ∀ b ∈ fp, FpOk X pins H' b := fun hn b hb => ⟨hn b hb, (f2 b hb).2⟩
  refine codeAny_forLoop_any (fun n s' => ∃ i σ' H', Inv X pins σ' H' s' ∧ tn i s'.heap ∧ (∀ b ∈ fp, H' b = none) ∧ W i n σ' H') ?_ m0 ⟨0, σ, H2, I2, st2, fun b hb => (f2 b hb).1, w0⟩
  rintro n s3 ⟨i, σ3, H3, I3, st3, fr3, w3⟩
  rcases turn i n σ3 H3 w3 with ⟨stop, qn⟩ | ⟨go, N, hN, step⟩
  · refine wpAny_passesOwn hp (thn (T.done X rfl rfl rfl hc i pins s3 σ3 H3 X.xe I3 (stat fr3) st3 stop) fun r s4 ⟨hr, I4⟩ => ?_)
    subst hr
    exact wpAny_execs_nil ⟨σ3, H3, I4, qn⟩
  · refine wpAny_passesOwn hp (thn (T.item X rfl rfl rfl hc i pins s3 σ3 H3 X.xe I3 (stat fr3) st3 go) fun r s4 ⟨u, hr, h4⟩ => ?_)
    subst hr
    refine wpAny_passesOwn hp (thn h4 fun _ s5 ⟨x, H5, I5, r5, y5, st5, fr5⟩ => ?_)
    have I5' := I5.pinned (stat fr5) (T.obj _ _ st5)
    refine wpAny_passesOwn hp (thn (hg _ s5 σ3 H5 x u _ I5' r5 (step x H5 y5)) fun _ s6 ⟨σ6, H6, I6, q6⟩ => ?_)
    refine wpAny_passesOwn hp (thn (hb _ s6 σ6 H6 _ I6 q6) fun f s7 q7 => ?_)
    have again : ∀ {σ7 : St} {H7 : Hp}, Inv X (pins ++ pinsAt fp s5.heap) σ7 H7 s7 → N σ7 H7 → ∃ m, m < n ∧ ∃ i σ' H', Inv X pins σ' H' s7 ∧ tn i s7.heap ∧ (∀ b ∈ fp, H' b = none) ∧ W i m σ' H' := fun {σ7 H7} I7 n7 => by
      obtain ⟨m', hm, w7⟩ := hN σ7 H7 n7
      refine ⟨m', hm, i + 1, σ7, H7, I7.unpinned, T.keep _ _ _ st5 fun b hb o e => (I7.pin (b, o) (List.mem_append_right _ (List.mem_append_right _ (mem_pinsAt hb e)))).1, fun b hb => ?_, w7⟩
      obtain ⟨o, e, d⟩ := T.obj _ _ st5 b hb
      exact (I7.pin (b, o) (List.mem_append_right _ (List.mem_append_right _ (mem_pinsAt hb e)))).2.1
    cases f with
    | next => obtain ⟨σ7, H7, I7, n7⟩ := q7; exact again I7 n7
    | cont => obtain ⟨σ7, H7, I7, n7⟩ := q7; exact again I7 n7
    | brk => obtain ⟨σ7, H7, I7, q7⟩ := q7; exact ⟨σ7, H7, I7.unpinned, q7⟩
    | ret v => obtain ⟨x7, σ7, H7, I7, r7, q7⟩ := q7; exact ⟨x7, σ7, H7, I7.unpinned, r7, q7⟩
end
end L2
namespace L2
open PySem PySem.Spec PyProof.Rows
noncomputable abbrev R2 := V → V → Hp → VK → Prop
noncomputable def OpR (X : Cx) (f : Value → Value → Sem Value) (r : R2) : Prop :=
  ∀ (pins : List (Addr × Obj)) (s : Shared) (σ : St) (H : Hp) (x y : V) (v u : Value) (Q : VK), Inv X pins σ H s → RelV x v → RelV y u → r x y H Q →
    wpAny (model X.prog X.w) X.A (f v u) (EP X pins σ Q) X.xe s
noncomputable def UnR (X : Cx) (f : Value → Sem Value) (r : V → Hp → VK → Prop) : Prop :=
  ∀ (pins : List (Addr × Obj)) (s : Shared) (σ : St) (H : Hp) (x : V) (v : Value) (Q : VK), Inv X pins σ H s → RelV x v → r x H Q →
    wpAny (model X.prog X.w) X.A (f v) (EP X pins σ Q) X.xe s
noncomputable def CallR (X : Cx) (f : Value) (r : List V → Hp → VK → Prop) : Prop :=
  ∀ (pins : List (Addr × Obj)) (s : Shared) (σ : St) (H : Hp) (xs : List V) (us : List Value) (Q : VK), Inv X pins σ H s → Vals xs us → r xs H Q →
    wpAny (model X.prog X.w) X.A (call f us) (EP X pins σ Q) X.xe s
noncomputable def tOp (r : R2) (ta tb : TE) : TE := fun σ H Q => ta σ H fun x H1 => tb σ H1 fun y H2 => r x y H2 Q
noncomputable def tUn (r : V → Hp → VK → Prop) (ta : TE) : TE := fun σ H Q => ta σ H fun x H1 => r x H1 Q
noncomputable def rI (C : Int → Int → Prop) (g : Int → Int → V) : R2 := fun x y H Q => ∃ i j, x = .int i ∧ y = .int j ∧ C i j ∧ Q (g i j) H
noncomputable def rI0 (g : Int → Int → V) : R2 := fun x y H Q => ∃ i j, x = .int i ∧ y = .int j ∧ Q (g i j) H
noncomputable def rU (g : Int → V) : V → Hp → VK → Prop := fun x H Q => ∃ i, x = .int i ∧ Q (g i) H
section
variable {X : Cx} {a b c : Expr} {ta tb tc : TE} {pos : Pos}
theorem binT (ha : PE X a ta) (hb : PE X b tb) {pins : List (Addr × Obj)} {s : Shared} {σ : St} {H : Hp} {R : V → V → Hp → Prop} (I : Inv X pins σ H s)
    (h : ta σ H fun x H1 => tb σ H1 fun y H2 => R x y H2) {Q : Value → Shared → Prop} {f : Value → Value → Sem Value}
    (hf : ∀ v u s2 x y H2, Inv X pins σ H2 s2 → RelV x v → RelV y u → R x y H2 → wpAny (model X.prog X.w) X.A (f v u) Q X.xe s2) :
    wpAny (model X.prog X.w) X.A (eval a X.env) (fun v s₁ => wpAny (model X.prog X.w) X.A (eval b X.env) (fun u s₂ => wpAny (model X.prog X.w) X.A (f v u) Q X.xe s₂) X.xe s₁) X.xe s := by
  refine thn (ha pins s σ H _ I h) fun v s1 ⟨x, H1, I1, r1, q1⟩ => ?_
  refine thn (hb pins s1 σ H1 _ I1 q1) fun u s2 ⟨y, H2, I2, r2, q2⟩ => ?_
  exact hf v u s2 x y H2 I2 r1 r2 q2
theorem pe_op {op : Operator} {r : R2} (ho : OpR X (binaryOp op) r) (ha : PE X a ta) (hb : PE X b tb) : PE X (.BinOp a op b pos) (tOp r ta tb) := by
  intro pins s σ H Q I h
  exact wpAny_BinOp (binT ha hb I h fun v u s2 x y H2 I2 rx ry q => ho pins s2 σ H2 x y v u Q I2 rx ry q)
theorem pe_un {op : UnaryOp} {r : V → Hp → VK → Prop} (ho : UnR X (unaryOp op) r) (ha : PE X a ta) : PE X (.UnaryOp op a pos) (tUn r ta) := by
  intro pins s σ H Q I h
  exact UnaryOp_ (thn (ha pins s σ H _ I h) fun v s1 ⟨x, H1, I1, r1, q1⟩ => ho pins s1 σ H1 x v Q I1 r1 q1)
theorem opI {f : Value → Value → Sem Value} {C : Int → Int → Prop} {g : Int → Int → Int}
    (rule : ∀ (i j : Int) (t u : Tok) (s : Shared) (Q : Value → Shared → Prop) (E : Value → Shared → Prop), C i j → Q (.int (g i j) s.toks) { s with toks := s.toks + 1 } → wpAny (model X.prog X.w) X.A (f (.int i t) (.int j u)) Q E s) :
    OpR X f (rI C fun i j => .int (g i j)) := by
  intro pins s σ H x y v u Q I rx ry h
  obtain ⟨i, j, rfl, rfl, hc, q⟩ := h
  obtain ⟨t, rfl⟩ := rx
  obtain ⟨t', rfl⟩ := ry
  exact rule i j t t' s _ _ hc ⟨.int (g i j), H, I.tok _, ⟨_, rfl⟩, q⟩
theorem opI0 {f : Value → Value → Sem Value} {g : Int → Int → Int}
    (rule : ∀ (i j : Int) (t u : Tok) (s : Shared) (Q : Value → Shared → Prop) (E : Value → Shared → Prop), Q (.int (g i j) s.toks) { s with toks := s.toks + 1 } → wpAny (model X.prog X.w) X.A (f (.int i t) (.int j u)) Q E s) :
    OpR X f (rI0 fun i j => .int (g i j)) := by
  intro pins s σ H x y v u Q I rx ry h
  obtain ⟨i, j, rfl, rfl, q⟩ := h
  obtain ⟨t, rfl⟩ := rx
  obtain ⟨t', rfl⟩ := ry
  exact rule i j t t' s _ _ ⟨.int (g i j), H, I.tok _, ⟨_, rfl⟩, q⟩
theorem opB0 {f : Value → Value → Sem Value} {g : Int → Int → Bool}
    (rule : ∀ (i j : Int) (t u : Tok) (s : Shared) (Q : Value → Shared → Prop) (E : Value → Shared → Prop), Q (.bool (g i j)) s → wpAny (model X.prog X.w) X.A (f (.int i t) (.int j u)) Q E s) :
    OpR X f (rI0 fun i j => .bl (g i j)) := by
  intro pins s σ H x y v u Q I rx ry h
  obtain ⟨i, j, rfl, rfl, q⟩ := h
  obtain ⟨t, rfl⟩ := rx
  obtain ⟨t', rfl⟩ := ry
  exact rule i j t t' s _ _ ⟨.bl (g i j), H, I, rfl, q⟩
noncomputable def CPow (i j : Int) : Prop := 0 ≤ j ∧ j ≤ 1000000 ∧ i.natAbs < 2 ^ 64
noncomputable def CMul (i j : Int) : Prop := (-(2 ^ 64) < i ∧ i < 2 ^ 64) ∨ (-(2 ^ 64) < j ∧ j < 2 ^ 64)
theorem CMul.ok {i j : Int} (h : CMul i j) : IntMulOk i j := by
  rcases h with ⟨h1, h2⟩ | ⟨h1, h2⟩
  · exact .of_left (intBits_le_64 h1 h2)
  · exact .of_right (intBits_le_64 h1 h2)
theorem op_add : OpR X (binaryOp .Add) (rI0 fun i j => .int (i + j)) := opI0 fun _ _ _ _ _ _ _ q => add_int q
theorem op_sub : OpR X (binaryOp .Sub) (rI0 fun i j => .int (i - j)) := opI0 fun _ _ _ _ _ _ _ q => sub_int q
theorem op_mod : OpR X (binaryOp .Mod) (rI (fun _ j => 0 < j) fun i j => .int (i % j)) := opI fun i j _ _ _ _ _ hc q => by
  have h1 : (0 : Int) < j := hc
  exact mod_int' (by omega) (by rw [Int.fmod_eq_emod_of_nonneg i (by omega)]; exact q)
theorem op_pow : OpR X (binaryOp .Pow) (rI CPow fun i j => .int (i ^ j.toNat)) := opI fun _ _ _ _ _ _ _ hc q => pow_int_small hc.1 hc.2.1 hc.2.2 q
theorem unI {f : Value → Sem Value} {g : Int → Int}
    (rule : ∀ (i : Int) (t : Tok) (s : Shared) (Q : Value → Shared → Prop) (E : Value → Shared → Prop), Q (.int (g i) s.toks) { s with toks := s.toks + 1 } → wpAny (model X.prog X.w) X.A (f (.int i t)) Q E s) :
    UnR X f (rU fun i => .int (g i)) := by
  intro pins s σ H x v Q I rx h
  obtain ⟨i, rfl, q⟩ := h
  obtain ⟨t, rfl⟩ := rx
  exact rule i t s _ _ ⟨.int (g i), H, I.tok _, ⟨_, rfl⟩, q⟩
theorem un_neg : UnR X (unaryOp .USub) (rU fun i => .int (-i)) := unI fun _ _ _ _ _ q => neg_int q
end
noncomputable def scal : V → V → Bool
  | .non, .non => true | .non, .int _ => true | .int _, .non => true | .non, .bl _ => true | .bl _, .non => true | .non, .str _ => true | .str _, .non => true
  | .int _, .int _ => true | .bl _, .bl _ => true | .str _, .str _ => true | .byt _, .byt _ => true
  | .int _, .str _ => true | .str _, .int _ => true | .bl _, .str _ => true | .str _, .bl _ => true
  | _, _ => false
noncomputable def rEq : R2 := fun x y H Q => scal x y = true ∧ Q (.bl (decide (x = y))) H
noncomputable def rNe : R2 := fun x y H Q => scal x y = true ∧ Q (.bl (!decide (x = y))) H
theorem dec_int {i j : Int} : decide (V.int i = V.int j) = (i == j) := by
  rw [Bool.eq_iff_iff]
  simp
theorem dec_bl {i j : Bool} : decide (V.bl i = V.bl j) = (i == j) := by
  rw [Bool.eq_iff_iff]
  simp
theorem dec_str {i j : Str} : decide (V.str i = V.str j) = (i == j) := by
  rw [Bool.eq_iff_iff]
  simp
theorem dec_byt {i j : Array UInt8} : decide (V.byt i = V.byt j) = (i.toList == j.toList) := by
  rw [Bool.eq_iff_iff]
  cases i
  cases j
  simp
section
variable {X : Cx} {a b c : Expr} {ta tb tc : TE} {pos : Pos}
theorem fin_bl {pins : List (Addr × Obj)} {σ : St} {H : Hp} {s : Shared} {Q : VK} {k k' : Bool} (I : Inv X pins σ H s) (q : Q (.bl k) H) (e : k = k') : EP X pins σ Q (.bool k') s := by
  subst e
  exact ⟨.bl k, H, I, rfl, q⟩
theorem op_eq : OpR X (compareOp .Eq) rEq := by
  intro pins s σ H x y v u Q I rx ry h
  obtain ⟨hs, q⟩ := h
  cases x with
  | non =>
    cases rx
    cases y with
    | non => cases ry; exact PySem.EqNone.eq_none_none (fin_bl I q (by simp))
    | bl j => cases ry; exact PySem.EqNone.eq_none_bool (fin_bl I q (by simp))
    | int j => obtain ⟨t', rfl⟩ := ry; exact PySem.EqNone.eq_none_int (fin_bl I q (by simp))
    | str j => obtain ⟨t', rfl⟩ := ry; exact PySem.EqNone.eq_none_str (fin_bl I q (by simp))
    | _ => exact absurd (show false = true from hs) Bool.false_ne_true
  | bl i =>
    cases rx
    cases y with
    | non => cases ry; exact PySem.EqNone.eq_bool_none (fin_bl I q (by simp))
    | bl j => cases ry; exact eq_bool (fin_bl I q dec_bl)
    | str j => obtain ⟨t', rfl⟩ := ry; exact PySem.EqMixed.eq_bool_str (fin_bl I q (by simp))
    | _ => exact absurd (show false = true from hs) Bool.false_ne_true
  | int i =>
    obtain ⟨t, rfl⟩ := rx
    cases y with
    | non => cases ry; exact PySem.EqNone.eq_int_none (fin_bl I q (by simp))
    | int j => obtain ⟨t', rfl⟩ := ry; exact eq_int (fin_bl I q dec_int)
    | str j => obtain ⟨t', rfl⟩ := ry; exact PySem.EqMixed.eq_int_str (fin_bl I q (by simp))
    | _ => exact absurd (show false = true from hs) Bool.false_ne_true
  | str i =>
    obtain ⟨t, rfl⟩ := rx
    cases y with
    | non => cases ry; exact PySem.EqNone.eq_str_none (fin_bl I q (by simp))
    | bl j => cases ry; exact PySem.EqMixed.eq_str_bool (fin_bl I q (by simp))
    | int j => obtain ⟨t', rfl⟩ := ry; exact PySem.EqMixed.eq_str_int (fin_bl I q (by simp))
    | str j => obtain ⟨t', rfl⟩ := ry; exact eq_str (fin_bl I q dec_str)
    | _ => exact absurd (show false = true from hs) Bool.false_ne_true
  | byt i =>
    obtain ⟨t, rfl⟩ := rx
    cases y with
    | byt j => obtain ⟨t', rfl⟩ := ry; exact PySem.W.eq_bytes (fin_bl I q dec_byt)
    | _ => exact absurd (show false = true from hs) Bool.false_ne_true
  | _ => cases y <;> exact absurd (show false = true from hs) Bool.false_ne_true
theorem op_ne : OpR X (compareOp .NotEq) rNe := by
  intro pins s σ H x y v u Q I rx ry h
  obtain ⟨hs, q⟩ := h
  cases x with
  | non =>
    cases rx
    cases y with
    | non => cases ry; exact PySem.EqNone.ne_none_none (fin_bl I q (by simp))
    | bl j => cases ry; exact PySem.EqNone.ne_none_bool (fin_bl I q (by simp))
    | int j => obtain ⟨t', rfl⟩ := ry; exact PySem.EqNone.ne_none_int (fin_bl I q (by simp))
    | str j => obtain ⟨t', rfl⟩ := ry; exact PySem.EqNone.ne_none_str (fin_bl I q (by simp))
    | _ => exact absurd (show false = true from hs) Bool.false_ne_true
  | bl i =>
    cases rx
    cases y with
    | non => cases ry; exact PySem.EqNone.ne_bool_none (fin_bl I q (by simp))
    | bl j => cases ry; exact ne_bool (fin_bl I q (congrArg not dec_bl))
    | str j => obtain ⟨t', rfl⟩ := ry; exact PySem.EqMixed.ne_bool_str (fin_bl I q (by simp))
    | _ => exact absurd (show false = true from hs) Bool.false_ne_true
  | int i =>
    obtain ⟨t, rfl⟩ := rx
    cases y with
    | non => cases ry; exact PySem.EqNone.ne_int_none (fin_bl I q (by simp))
    | int j => obtain ⟨t', rfl⟩ := ry; exact ne_int (fin_bl I q (congrArg not dec_int))
    | str j => obtain ⟨t', rfl⟩ := ry; exact PySem.EqMixed.ne_int_str (fin_bl I q (by simp))
    | _ => exact absurd (show false = true from hs) Bool.false_ne_true
  | str i =>
    obtain ⟨t, rfl⟩ := rx
    cases y with
    | non => cases ry; exact PySem.EqNone.ne_str_none (fin_bl I q (by simp))
    | bl j => cases ry; exact PySem.EqMixed.ne_str_bool (fin_bl I q (by simp))
    | int j => obtain ⟨t', rfl⟩ := ry; exact PySem.EqMixed.ne_str_int (fin_bl I q (by simp))
    | str j => obtain ⟨t', rfl⟩ := ry; exact ne_str (fin_bl I q (congrArg not dec_str))
    | _ => exact absurd (show false = true from hs) Bool.false_ne_true
  | byt i =>
    obtain ⟨t, rfl⟩ := rx
    cases y with
    | byt j => obtain ⟨t', rfl⟩ := ry; exact PySem.W.ne_bytes (fin_bl I q (congrArg not dec_byt))
    | _ => exact absurd (show false = true from hs) Bool.false_ne_true
  | _ => cases y <;> exact absurd (show false = true from hs) Bool.false_ne_true
theorem op_lt : OpR X (compareOp .Lt) (rI0 fun i j => .bl (decide (i < j))) := opB0 fun _ _ _ _ _ _ _ q => lt_int q
theorem op_gt : OpR X (compareOp .Gt) (rI0 fun i j => .bl (decide (j < i))) := opB0 fun _ _ _ _ _ _ _ q => gt_int q
theorem op_notN : OpR X (compareOp .IsNot) (fun x y H Q => y = .non ∧ Q (.bl (!decide (x = .non))) H) := by
  intro pins s σ H x y v u Q I rx ry h
  obtain ⟨rfl, q⟩ := h
  cases ry
  refine isnot_none_gen (fin_bl I q ?_)
  cases x <;> first
    | (cases rx; rfl)
    | (obtain ⟨t, rfl⟩ := rx; rfl)
theorem OpR.or {f : Value → Value → Sem Value} {r r' : R2} (h : OpR X f r) (h' : OpR X f r') : OpR X f (fun x y H Q => r x y H Q ∨ r' x y H Q) := by
  intro pins s σ H x y v u Q I rx ry q
  rcases q with q | q
  · exact h pins s σ H x y v u Q I rx ry q
  · exact h' pins s σ H x y v u Q I rx ry q
theorem nomark (b : Expr) {op : CmpOp} (h : op ≠ .In := by decide) (h2 : op ≠ .NotIn := by decide) : behindInMarks op b = false := by
  have e1 : (op == CmpOp.In) = false := by cases op <;> first | rfl | exact absurd rfl h
  have e2 : (op == CmpOp.NotIn) = false := by cases op <;> first | rfl | exact absurd rfl h2
  cases b <;> simp [behindInMarks, e1, e2]
theorem pe_cmpR {op : CmpOp} {r : R2} (ho : OpR X (compareOp op) r) (ha : PE X a ta) (hb : PE X b tb) (hm : behindInMarks op b = false) : PE X (.Compare a [op] [b] pos) (tOp r ta tb) := by
  intro pins s σ H Q I h
  exact wpAny_Compare1 (binT ha hb I h fun v u s2 x y H2 I2 rx ry q => ho pins s2 σ H2 x y v u Q I2 rx ry q) hm
noncomputable def tTest (t : TE) : TT := fun σ H Q => t σ H fun x H' => ∃ k, x = .bl k ∧ Q k H'
theorem pt_cmpR {op : CmpOp} {r : R2} (ho : OpR X (compareOp op) r) (ha : PE X a ta) (hb : PE X b tb) (hm : behindInMarks op b = false) : PT X (.Compare a [op] [b] pos) (tTest (tOp r ta tb)) := by
  intro pins s σ H Q I h
  refine wpAny_isTrue_Compare1 (thn (ha pins s σ H _ I h) fun v s1 ⟨x, H1, I1, r1, q1⟩ => thn (hb pins s1 σ H1 _ I1 q1) fun u s2 ⟨y, H2, I2, r2, q2⟩ =>
    thn (ho pins s2 σ H2 x y v u _ I2 r1 r2 q2) fun c s3 ⟨z, H3, I3, r3, k, e, q3⟩ => ?_) hm
  subst e
  cases r3
  exact wpAny_truthy_bool ⟨H3, I3, q3⟩
theorem line63 : (sizeLine : Nat) < 2 ^ 63 := by rw [sizeLine_eq]; decide
theorem vals1 {x : V} {us : List Value} (r : Vals [x] us) : ∃ u, us = [u] ∧ RelV x u := by
  cases r with
  | cons r1 r2 => cases r2; exact ⟨_, rfl, r1⟩
theorem vals2 {x y : V} {us : List Value} (r : Vals [x, y] us) : ∃ u w', us = [u, w'] ∧ RelV x u ∧ RelV y w' := by
  cases r with
  | cons r1 r2 =>
    cases r2 with
    | cons r3 r4 => cases r4; exact ⟨_, _, rfl, r1, r3⟩
theorem call_abs : CallR X (.builtin "abs") (fun xs H Q => ∃ i, xs = [.int i] ∧ Q (.int (if i < 0 then -i else i)) H) := by
  intro pins s σ H xs us Q I r h
  obtain ⟨i, rfl, q⟩ := h
  obtain ⟨u, rfl, t, rfl⟩ := vals1 r
  exact call_abs_int fun u tk => ⟨.int (if i < 0 then -i else i), H, I.tok _, ⟨_, rfl⟩, q⟩
theorem call_min2 (hc : X.calm = true) : CallR X (.builtin "min") (fun xs H Q => ∃ i j, xs = [.int i, .int j] ∧ Q (.int (if j < i then j else i)) H) := by
  intro pins s σ H xs us Q I r h
  obtain ⟨i, j, rfl, q⟩ := h
  obtain ⟨u, w', rfl, ⟨t, rfl⟩, ⟨t', rfl⟩⟩ := vals2 r
  refine min_two_ints (I.ok.hd hc) fun h' tk k => ⟨_, H, I.kept k, ?_, q⟩
  by_cases hj : j < i
  · rw [if_pos hj, if_pos hj]; exact ⟨_, rfl⟩
  · rw [if_neg hj, if_neg hj]; exact ⟨_, rfl⟩
theorem call_int1 : CallR X (.type "int") (fun xs H Q => (∃ i, xs = [.int i] ∧ Q (.int i) H) ∨ ∃ k, xs = [.bl k] ∧ Q (.int (if k then 1 else 0)) H) := by
  intro pins s σ H xs us Q I r h
  rcases h with ⟨i, rfl, q⟩ | ⟨k, rfl, q⟩
  · obtain ⟨u, rfl, t, rfl⟩ := vals1 r
    exact call_int_int ⟨.int i, H, I, ⟨_, rfl⟩, q⟩
  · obtain ⟨u, rfl, r1⟩ := vals1 r
    cases r1
    exact call_int_bool ⟨.int (if k then 1 else 0), H, I.tok _, ⟨_, rfl⟩, q⟩
end
end L2
namespace L2
open PySem PySem.Spec PyProof.Rows
structure ObjM (h : Heap) (x dx C : Addr) (mA : Str → Option Value) : Prop where
  obj : h.get? x = some (PySem.W.instObj C dx)
  ns : h.Ns1 dx mA
  ne : dx ≠ x
theorem lookIn_ns {h : Heap} {dx : Addr} {mA : Str → Option Value} (n : h.Ns1 dx mA) : ∃ od, h.get? dx = some od ∧ ∀ name, PySem.W.lookIn name od = some (mA name) := by
  obtain ⟨o, es, ep, ho, hd, hk, _, hm⟩ := n
  refine ⟨o, ho, fun name => ?_⟩
  have e := hm name
  unfold nsFind findBy at e
  rw [← Array.find?_toList] at e
  unfold PySem.W.lookIn
  rw [hd]
  dsimp only
  split
  · rename_i y q
    rw [q] at e
    exact congrArg some e
  · rename_i q
    rw [q] at e
    have a : es.toList.any (·.refKey) = false := by
      rw [List.any_eq_false]
      intro y hy
      obtain ⟨z, t, hkey⟩ := hk y (Array.mem_toList_iff.mp hy)
      simp [DictEntry.refKey, hkey]
    have a' : ¬ es.toList.any (·.refKey) = true := by rw [a]; exact Bool.false_ne_true
    rw [if_neg a']
    exact congrArg some e
theorem ObjM.look {h : Heap} {x dx C : Addr} {mA : Str → Option Value} (I : ObjM h x dx C mA) : ∃ od, PySem.W.InstAt h x (PySem.W.instObj C dx) C (some od) ∧ ∀ name, PySem.W.lookIn name od = some (mA name) :=
  let ⟨od, ho, hl⟩ := lookIn_ns I.ns
  ⟨od, ⟨I.obj, rfl, rfl, ho⟩, hl⟩
section
variable {prog : Program} {w : World} {A : Around} {E : Value → Shared → Prop} {s : Shared} {K : PySem.W.Frag} {x dx C f : Addr} {mA : Str → Option Value} {name : Str} {v : Value}
end
section
variable {P : Program} {w : World} {H H' : Hp} {h h' : Heap} {a C dx : Addr} {fs fs' : List (Str × V)}
theorem ins_get (hok : HOk P w H h) (e : H a = some (.ins C dx fs)) : ∃ mA, ObjM h a dx C mA ∧ (∀ f, RelO (fs.lookup f) (mA f)) ∧ PySem.Within mA (fs.map (·.1)) ∧ fs.length ≤ 1000 ∧ H dx = some (.own a) := by
  obtain ⟨d, z, ne, ob, mA, n, r, q⟩ := (show ObjOk P w H h a (.ins C dx fs) from hok a _ e)
  exact ⟨mA, ⟨ob, n, ne⟩, r, q, z, d⟩
end
structure Cls (K : PySem.W.Frag) (C : Addr) : Prop where
  pg : PySem.W.plainGet K C Str.empty = true
  hd : PySem.W.hasDictIn K C = true
  po : PySem.W.plainOver K C = true
  sa : PySem.W.findIn K (.ref C) "__setattr__" = some (some (.builtin "object.__setattr__"))
theorem Cls.get {K : PySem.W.Frag} {C : Addr} (c : Cls K C) (f : Str) : PySem.W.plainGet K C f = true := c.pg
structure Con (K : PySem.W.Frag) (C : Addr) (f : Str) (v : V) (u : Value) : Prop where
  at_ : PySem.W.findIn K (.ref C) f = some (some u)
  rel : RelV v u
  get : PySem.W.specialIn K u "__get__" = some none
  cp : PySem.W.copiedNames.contains f = false
structure Meth (K : PySem.W.Frag) (C : Addr) (m : Str) (f : Addr) : Prop where
  at_ : PySem.W.findIn K (.ref C) m = some (some (.ref f))
  fn : PySem.W.isFn K (.ref f) = true
  kp : PySem.W.keepIn K (.ref f) = true
section
variable {X : Cx} {pins : List (Addr × Obj)} {σ : St} {H : Hp} {s : Shared} {a C dx : Addr} {fs : List (Str × V)} {f : Str} {v : V} {A : Around} {E : Value → Shared → Prop}
theorem Inv.made (I : Inv X pins σ H s) : Inv X pins σ (upd (upd H s.heap.objs.size (.own (s.heap.objs.size + 1))) (s.heap.objs.size + 1) (.ins C s.heap.objs.size []))
    { s with heap := (s.heap.push PySem.W.emptyDict).push (PySem.W.instObj C s.heap.objs.size) } := by
  have e1 : (s.heap.push PySem.W.emptyDict).get? s.heap.objs.size = some PySem.W.emptyDict := Heap.get?_push_size s.heap rfl
  have e2 : ((s.heap.push PySem.W.emptyDict).push (PySem.W.instObj C s.heap.objs.size)).get? (s.heap.objs.size + 1) = some (PySem.W.instObj C s.heap.objs.size) := by
    have := Heap.get?_push_size (s.heap.push PySem.W.emptyDict) (o := PySem.W.instObj C s.heap.objs.size) rfl
    rwa [Heap.size_push] at this
  have e3 : (s.heap.push PySem.W.emptyDict).Ns s.heap.objs.size (fun _ => none) := ⟨PySem.W.emptyDict, #[], _, e1, rfl, (fun e he => absurd he (by simp)), fun _ => rfl⟩
  have I1 := I.laid (a := s.heap.objs.size) (o := .own (s.heap.objs.size + 1)) (h' := s.heap.push PySem.W.emptyDict) (t' := s.toks) (fun b u q => Heap.get?_push_of_some _ q) (Nat.le_refl _) ⟨_, e1⟩
  refine I1.laid (a := s.heap.objs.size + 1) (o := .ins C s.heap.objs.size []) (t' := s.toks) (fun b u q => Heap.get?_push_of_some _ q) (Nat.le_of_eq (Heap.size_push _ _)) ?_
  have ne : s.heap.objs.size ≠ s.heap.objs.size + 1 := Nat.ne_of_lt (Nat.lt_succ_self _)
  refine ⟨by rw [upd_ne ne, upd_same], Nat.zero_le _, ne, e2, fun _ => none, (Heap.Ns1.of_empty e3).at fun o q => Heap.get?_push_of_some _ q, fun _ => True.intro, fun y hy => absurd rfl hy⟩
end
section
variable {X : Cx} {o e value : Expr} {f : Str} {pos pos' tpos : Pos} {ta tv : TE}
end
section
variable {X : Cx} {pins : List (Addr × Obj)} {σ : St} {H : Hp} {s : Shared} {A : Around} {E : Value → Shared → Prop} {Q : Value → Shared → Prop} {c : Value} {b : Bool}
inductive TyOf (K : PySem.W.Frag) (H : Hp) : V → Value → Prop where
  | non : TyOf K H .non (.type "NoneType")
  | bl (x : Bool) : TyOf K H (.bl x) (.type "bool")
  | int (i : Int) : TyOf K H (.int i) (.type "int")
  | str (x : Str) : TyOf K H (.str x) (.type "str")
  | flt (x : UInt64) : TyOf K H (.flt x) (.type "float")
  | lst {a : Addr} {xs : List V} (e : H a = some (.lst xs)) : TyOf K H (.ref a) (.type "list")
  | frz {a : Addr} {o : Obj} {xs : List V} (e : H a = some (.frz o (.lst xs))) : TyOf K H (.ref a) (.type "list")
  | tup {a : Addr} {xs : List V} (e : H a = some (.tup xs)) : TyOf K H (.ref a) (.type "tuple")
  | dK {a : Addr} {kvs : List (Key × V)} (e : H a = some (.dK kvs)) : TyOf K H (.ref a) (.type "dict")
  | dT {a : Addr} {kvs : List (List Key × V)} (e : H a = some (.dT kvs)) : TyOf K H (.ref a) (.type "dict")
  | ins {a C dx : Addr} {fs : List (Str × V)} (e : H a = some (.ins C dx fs)) (cl : Cls K C) (ha : PySem.W.findIn K (.ref C) "__class__" = some (some (.builtin "object.__class__")))
      (hn : PySem.W.specialIn K (.builtin "object.__class__") "__get__" = some (some (.builtin "getset_descriptor.__get__"))) (htk : PySem.W.takesIn K (.builtin "object.__class__") = some true)
      (hm : PySem.W.mroIn K C (.type "object") = some true) : TyOf K H (.ref a) (.ref C)
theorem isinst_ok {x : V} {u t : Value} (I : Inv X pins σ H s) (rx : RelV x u) (ty : TyOf X.K H x t) (e : PySem.W.kitOne X.K t c = some b) (h : ∀ tk, Q (.bool b) { s with toks := tk }) :
    wpAny (model X.prog X.w) A (call (.builtin "isinstance") [u, c]) Q E s := by
  cases ty with
  | non => cases (show u = Value.none from rx); exact PySem.W.kia_one PySem.W.kitx_none I.kIn True.intro e (fun z => nomatch z) h
  | bl y => cases (show u = Value.bool y from rx); exact PySem.W.kia_one PySem.W.kitx_bool I.kIn True.intro e (fun z => nomatch z) h
  | int i => obtain ⟨t, q⟩ := (show ∃ t, u = Value.int i t from rx); cases q; exact PySem.W.kia_one PySem.W.kitx_int I.kIn True.intro e (fun z => nomatch z) h
  | str y => obtain ⟨t, q⟩ := (show ∃ t, u = Value.str y t from rx); cases q; exact PySem.W.kia_one PySem.W.kitx_str I.kIn True.intro e (fun z => nomatch z) h
  | flt y => obtain ⟨t, q⟩ := (show ∃ t, u = Value.float y t from rx); cases q; exact PySem.W.kia_one PySem.W.kitx_float I.kIn True.intro e (fun z => nomatch z) h
  | @lst a xs ea =>
    cases (show u = Value.ref a from rx)
    obtain ⟨_, _, n, _, h1⟩ := (show ObjOk X.prog X.w H s.heap a (.lst xs) from I.hok a _ ea)
    exact PySem.W.kia_one PySem.W.kitx_list I.kIn ⟨_, h1, rfl⟩ e (fun z => nomatch z) h
  | @frz a ob xs ea =>
    cases (show u = Value.ref a from rx)
    obtain ⟨_, _, _, n, _, h1⟩ := (show ObjOk X.prog X.w H s.heap a (.frz ob (.lst xs)) from I.hok a _ ea)
    exact PySem.W.kia_one PySem.W.kitx_list I.kIn ⟨_, h1, rfl⟩ e (fun z => nomatch z) h
  | @tup a xs ea =>
    cases (show u = Value.ref a from rx)
    obtain ⟨_, _, _, p⟩ := (show ObjOk X.prog X.w H s.heap a (.tup xs) from I.hok a _ ea)
    obtain ⟨o, h1, h2, _⟩ := p
    exact PySem.W.kia_one PySem.W.kitx_tuple I.kIn ⟨o, h1, h2⟩ e (fun z => nomatch z) h
  | @dK a kvs ea =>
    cases (show u = Value.ref a from rx)
    obtain ⟨_, _, vs, _, p⟩ := (show ObjOk X.prog X.w H s.heap a (.dK kvs) from I.hok a _ ea)
    obtain ⟨o, es, ep, h1, h2, _⟩ := p
    exact PySem.W.kia_one PySem.W.kitx_dict I.kIn ⟨o, h1, h2.1⟩ e (fun z => nomatch z) h
  | @dT a kvs ea =>
    cases (show u = Value.ref a from rx)
    obtain ⟨_, _, xs, _, o, es, ep, h1, h2, _⟩ := (show ObjOk X.prog X.w H s.heap a (.dT kvs) from I.hok a _ ea)
    exact PySem.W.kia_one PySem.W.kitx_dict I.kIn ⟨o, h1, h2.1⟩ e (fun z => nomatch z) h
  | @ins a C dx fs ea cl ha hn htk hm =>
    cases (show u = Value.ref a from rx)
    obtain ⟨mA, O, _⟩ := ins_get I.hok ea
    obtain ⟨od, J, _⟩ := O.look
    exact PySem.W.kia_one (PySem.W.kitx_own (cl.get _) cl.hd ha hn htk hm) I.kIn J e (fun z => nomatch z) h
end
end L2
namespace L2
open PySem PySem.Spec PyProof.Rows
structure Room (k : Nat) (A : Around) : Prop where
  hd : A.handled = none
  dp : A.depth + 3 * k + 5 < recursionLimit
  un : A.units + 16 * k + 200 < cLine
theorem Room.mono {j k : Nat} {A : Around} (r : Room k A) (h : j ≤ k) : Room j A := ⟨r.hd, by have := r.dp; omega, by have := r.un; omega⟩
theorem Room.deeper {k : Nat} {A : Around} (r : Room (k + 1) A) (env : Env) : Room k (A.deeper env) :=
  ⟨r.hd, by have := r.dp; show A.depth + 1 + 3 * k + 5 < _; omega, by have := r.un; show A.units + 3 + 16 * k + 200 < _; omega⟩
theorem Room.depth {k : Nat} {A : Around} (r : Room k A) : A.depth < recursionLimit := by have := r.dp; omega
theorem Room.units {k : Nat} {A : Around} (r : Room k A) : A.units + 64 < cLine := by have := r.un; omega
noncomputable def tNil : TA := fun _ H Q => Q [] H
noncomputable def tCons (ta : TE) (tr : TA) : TA := fun σ H Q => ta σ H fun x H1 => tr σ H1 fun xs H2 => Q (x :: xs) H2
section
variable {X : Cx} {e : Expr} {es : List Expr} {te : TE} {t : TA} {pos : Pos}
theorem pa_nil : PA X [] tNil := fun _ _ _ _ H Q I h => Calls.spliced_nil ⟨[], H, I, .nil, h⟩
theorem pa_cons (ha : PE X e te) (hr : PA X es t) (hs : starEach (e :: es) X.env = (false, eval e X.env) :: starEach es X.env := by rfl) : PA X (e :: es) (tCons te t) := by
  intro pos pins s σ H Q I h
  rw [hs]
  show wpAny _ _ (spliced ((false, eval e X.env) :: backTo pos (starEach es X.env))) _ _ s
  refine Calls.spliced_cons (thn (ha pins s σ H _ I h) fun u s1 ⟨x, H1, I1, r1, q1⟩ => ?_)
  exact thn (hr pos pins s1 σ H1 _ I1 q1) fun us s2 ⟨xs, H2, I2, r2, q2⟩ => ⟨x :: xs, H2, I2, .cons r1 r2, q2⟩
noncomputable def tTup (t : TA) : TE := fun σ H Q => t σ H fun xs H1 => xs.length ≤ sizeLine ∧ ∀ p, H1 p = none → Q (.ref p) (upd H1 p (.tup xs))
noncomputable def tLst (t : TA) : TE := fun σ H Q => t σ H fun xs H1 => xs.length ≤ sizeLine ∧ ∀ p, H1 p = none → Q (.ref p) (upd H1 p (.lst xs))
theorem pe_tup {x1} (h : PA X es t) : PE X (.Tuple es x1 pos) (tTup t) := by
  intro pins s σ H Q I hq
  refine wpAny_Tuple_spliced (thn (h pos pins s σ H _ I hq) fun us s1 ⟨xs, H1, I1, r, z, q⟩ => ⟨by rw [← r.length]; exact z, ?_⟩)
  have hf : H1 s1.heap.objs.size = none := I1.hok.fresh (Nat.le_refl _)
  refine ⟨.ref s1.heap.objs.size, upd H1 s1.heap.objs.size (.tup xs), I1.laid (t' := s1.toks) (fun b u e => Heap.get?_push_of_some _ e) (Nat.le_refl _) ?_, rfl, q _ hf⟩
  exact ⟨z, us, r, ⟨_, Heap.get?_push_size _ rfl, rfl, _, rfl⟩⟩
theorem pe_lst (h : PA X es t) : PE X (.List es pos) (tLst t) := by
  intro pins s σ H Q I hq
  refine wpAny_List_spliced (thn (h pos pins s σ H _ I hq) fun us s1 ⟨xs, H1, I1, r, z, q⟩ => ⟨by rw [← r.length]; exact z, ?_⟩)
  have hf : H1 s1.heap.objs.size = none := I1.hok.fresh (Nat.le_refl _)
  refine ⟨.ref s1.heap.objs.size, upd H1 s1.heap.objs.size (.lst xs), I1.laid (t' := s1.toks) (fun b u e => Heap.get?_push_of_some _ e) (Nat.le_refl _) ?_, rfl, q _ hf⟩
  exact ⟨z, us, 0, r, Heap.get?_push_size _ rfl⟩
end
noncomputable abbrev Sp := List V → Hp → VK → XK → Prop
noncomputable abbrev CXT := List Env → Hp → Shared → XK → Value → Shared → Prop
structure Env0 (P : Program) (w : World) (K : PySem.W.Frag) (mg : Str → Option Value) (base : Heap) (A : Around) (outer : List Env) (s : Shared) (H : Hp) : Prop where
  frames : A.frames = some outer
  mod : Mod K mg base
  bs : ∀ b o, base.get? b = some o → s.heap.get? b = some o ∧ H b = none
  bsz : base.objs.size ≤ s.heap.objs.size
  funs : s.heap.FunFrames base outer
  frf : ∀ b ∈ frs outer, H b = none
  hok : HOk P w H s.heap
  bare : AllBare s.gens
noncomputable def CE (outer : List Env) (P : Program) (w : World) (H : Hp) (s : Shared) (Q : VK) (u : Value) (s' : Shared) : Prop :=
  ∃ v H', s'.os = s.os ∧ AllBare s'.gens ∧ Un (frs outer) [] H H' s.heap s'.heap ∧ HOk P w H' s'.heap ∧ RelV v u ∧ Q v H'
noncomputable def CR (CX : CXT) (outer : List Env) (P : Program) (w : World) (H : Hp) (s : Shared) (Q : VK) (E : XK) (r : Result) (s' : Shared) : Prop :=
  match r with
  | .ok (.ret u) => CE outer P w H s Q u s'
  | .ok _ => False
  | .error e => CX outer H s E e s'
structure FnOk (P : Program) (w : World) (K : PySem.W.Frag) (mg : Str → Option Value) (base : Heap) (CX : CXT) (k : Nat) (f : Addr) (fd : FuncData) (ps : List Str) (sp : Sp) : Prop where
  len : ∀ vs H Q E, sp vs H Q E → vs.length = ps.length
  run : ∀ (A : Around) (outer : List Env) (s : Shared) (H : Hp) (args : Args) (us : List Value) (vs : List V) (Q : VK) (E : XK), Room k A → Env0 P w K mg base A outer s H → BindsTo s fd args (ps.zip us) → Vals vs us → sp vs H Q E →
    codeAny (model P w) A (.call (.ref f) args) (CR CX outer P w H s Q E) s
theorem FnOk.imp {P : Program} {w : World} {K : PySem.W.Frag} {mg : Str → Option Value} {base : Heap} {CX : CXT} {k : Nat} {f : Addr} {fd : FuncData} {ps : List Str} {sp sp' : Sp} (F : FnOk P w K mg base CX k f fd ps sp)
    (h : ∀ vs H Q E, sp' vs H Q E → sp vs H Q E) : FnOk P w K mg base CX k f fd ps sp' :=
  ⟨fun vs H Q E q => F.len vs H Q E (h _ _ _ _ q), fun A outer s H args us vs Q E hr he hb hv hs => F.run A outer s H args us vs Q E hr he hb hv (h _ _ _ _ hs)⟩
section
variable {X : Cx} {pins : List (Addr × Obj)} {σ : St} {H : Hp} {s s' : Shared}
theorem Inv.env0 (I : Inv X pins σ H s) : Env0 X.prog X.w X.K X.mg X.base X.A X.stack s H :=
  ⟨I.ok.frames, I.ok.mod, I.bs, Nat.le_trans I.ok.bsz I.sz, I.stack, I.stkFree, I.hok, I.bare⟩
theorem Inv.after {Q : VK} {u : Value} (I : Inv X pins σ H s) (h : CE X.stack X.prog X.w H s Q u s') : EP X pins σ Q u s' := by
  obtain ⟨v, H', os, bare, un, hok, r, q⟩ := h
  obtain ⟨hh, g, d, t, os'⟩ := s'
  obtain rfl : os' = s.os := os
  exact ⟨v, H', I.call (h' := hh) (g' := g) (d' := d) (t' := t) (ch := []) un hok bare (fun b z => absurd z (by simp)), r, q⟩
end
noncomputable def tCall (sp : Sp) (dvs : List V) (E : XK) (t : TA) : TE := fun σ H Q => t σ H fun vs H1 => sp (vs ++ dvs) H1 Q E
noncomputable def Binds (K : PySem.W.Frag) (fd : FuncData) (ps : List Str) (ds : List Value) : Prop :=
  ∀ (s : Shared) (us : List Value), K.In s.heap → (us ++ ds).length = ps.length → BindsTo s fd ⟨us, []⟩ (ps.zip (us ++ ds))
theorem Binds.all {K : PySem.W.Frag} {fd : FuncData} {ps : List Str} (h : ∀ us : List Value, us.length = ps.length → bindArgs fd ⟨us, []⟩ = pure (ps.zip us)) : Binds K fd ps [] := fun s us _ hl => by
  rw [List.append_nil] at hl ⊢
  exact .of_eq (h us hl)
noncomputable def Passes (CX : CXT) (X : Cx) (E : XK) : Prop := ∀ (pins : List (Addr × Obj)) (σ : St) (H : Hp) (s : Shared) (e : Value) (s' : Shared), Inv X pins σ H s → CX X.stack H s E e s' → X.xe e s'
section
variable {X : Cx} {CX : CXT} {k : Nat} {f C : Addr} {fd : FuncData} {ps : List Str} {sp : Sp} {dvs : List V} {ds : List Value} {E : XK} {x m : Str} {p pos apos : Pos} {e o : Expr} {es : List Expr} {ta : TE} {t : TA}
theorem run_fn {pins : List (Addr × Obj)} {σ : St} {H : Hp} {s : Shared} {Q : VK} {us : List Value} {vs : List V} (F : FnOk X.prog X.w X.K X.mg X.base CX k f fd ps sp) (hr : Room k X.A) (hb : Binds X.K fd ps ds) (hd : Vals dvs ds) (hx : Passes CX X E)
    (I : Inv X pins σ H s) (r : Vals vs us) (h : sp (vs ++ dvs) H Q E) : wpAny (model X.prog X.w) X.A (call (.ref f) us) (EP X pins σ Q) X.xe s := by
  have r2 : Vals (vs ++ dvs) (us ++ ds) := r.append hd
  have hl : (us ++ ds).length = ps.length := by rw [← r2.length]; exact F.len _ _ _ _ h
  refine wpAny_call (codeAny_mono (F.run X.A X.stack s H ⟨us, []⟩ (us ++ ds) (vs ++ dvs) Q E hr I.env0 (hb s us I.kIn hl) r2 h) fun r s' hq => ?_)
  cases r with
  | error e => exact hx pins σ H s e s' I hq
  | ok fl =>
    cases fl with
    | ret u => exact I.after hq
    | next => exact False.elim hq
    | brk => exact False.elim hq
    | cont => exact False.elim hq
theorem pe_call (F : FnOk X.prog X.w X.K X.mg X.base CX k f fd ps sp) (hr : Room k X.A) (hg : Gl X x) (hm : X.mg x = some (.ref f)) (hk : PySem.W.keepIn X.K (.ref f) = true) (hb : Binds X.K fd ps ds) (hd : Vals dvs ds) (hx : Passes CX X E)
    (ha : PA X (e :: es) t) (hdb : (x == ("__debug__" : Str)) = false := by decide) (he : starEach (e :: es) X.env = (false, eval e X.env) :: starEach es X.env := by rfl) (hpl : (backTo pos (starEach es X.env)).any (·.1) = false := by rfl) :
    PE X (.Call (.Name x p) (e :: es) [] pos) (tCall sp dvs E t) := by
  intro pins s σ H Q I h
  refine wpAny_Call_Name_kw (ld_glob I hg hm ?_ hdb)
  refine PySem.W.callWith_K (h₀ := X.base) I.ok.mod.kin hk (thn (ha pos pins s σ H _ I h) fun us s1 ⟨vs, H1, I1, r, q⟩ => ⟨I1.kIn, ?_⟩) he hpl
  exact run_fn F hr hb hd hx I1 r q
structure Mk (K : PySem.W.Frag) (C f : Addr) : Prop where
  makes : PySem.W.makesIn K C = true
  init : PySem.W.findIn K (.ref C) "__init__" = some (some (.ref f))
  fn : PySem.W.isFn K (.ref f) = true
  kp : PySem.W.keepIn K (.ref C) = true
end
section
variable {X : Cx} {CX : CXT} {k : Nat} {f C : Addr} {fd : FuncData} {ps ks : List Str} {sp : Sp} {E : XK} {x m : Str} {p pos apos kpos : Pos} {e o : Expr} {es : List Expr} {kws : List Keyword} {te ta : TE} {t tk : TA} {nm : Option Str}
structure KBinds (K : PySem.W.Frag) (fd : FuncData) (ps ks : List Str) (g : List Value → List Value → List Value) (gV : List V → List V → List V) : Prop where
  to : ∀ (s : Shared) (us ws : List Value), K.In s.heap → (g us ws).length = ps.length → BindsTo s fd ⟨us, ks.zip ws⟩ (ps.zip (g us ws))
  rel : ∀ {vs : List V} {us : List Value} {zs : List V} {ws : List Value}, Vals vs us → Vals zs ws → Vals (gV vs zs) (g us ws)
variable {g : List Value → List Value → List Value} {gV : List V → List V → List V}
end
structure FnScope (N P : List Str) (sc : Scope) : Prop where
  kind : sc.kind = .function
  co : sc.isCoroutine = false
  gen : sc.isGenerator = false
  nd : N.Nodup
  pre : N.take P.length = P
  par : ∀ x ∈ P, sc.names.lookup x = some .local ∨ sc.names.lookup x = some .cell
  nofree : ∀ y ∈ sc.names, y.2 ≠ .free
theorem bindL_out {kindOf : Str → Option NameKind} {x : Str} : ∀ {binds : List (Str × Value)} {m : Str → Option Value}, (∀ v, (x, v) ∉ binds) → bindL kindOf binds m x = m x
  | [], _, _ => rfl
  | (n, v) :: r, m, h => by
    unfold bindL
    rw [bindL_out fun w hw => h w (List.mem_cons_of_mem _ hw)]
    split
    · have : x ≠ n := by rintro rfl; exact h v List.mem_cons_self
      simp [this]
    · rfl
theorem bindC_out {kindOf : Str → Option NameKind} {x : Str} : ∀ {binds : List (Str × Value)} {m : Str → Option Value}, (∀ v, (x, v) ∉ binds) → bindC kindOf binds m x = m x
  | [], _, _ => rfl
  | (n, v) :: r, m, h => by
    unfold bindC
    rw [bindC_out fun w hw => h w (List.mem_cons_of_mem _ hw)]
    split
    · rfl
    · have : x ≠ n := by rintro rfl; exact h v List.mem_cons_self
      simp [this]
theorem bindL_get {kindOf : Str → Option NameKind} {x : Str} {v : Value} : ∀ {P : List Str} {vs : List Value} {i : Nat} {m : Str → Option Value}, P.Nodup → P[i]? = some x → vs[i]? = some v → kindOf x = some .local →
    bindL kindOf (P.zip vs) m x = some v
  | [], _, _, _, _, h, _, _ => by simp at h
  | _ :: _, [], _, _, _, _, h, _ => by simp at h
  | p :: P, w :: vs, 0, m, nd, h1, h2, hk => by
    simp at h1 h2; subst h1; subst h2
    show bindL kindOf ((p, w) :: P.zip vs) m p = _
    unfold bindL
    rw [bindL_out fun v hv => (List.nodup_cons.mp nd).1 (List.of_mem_zip hv).1, if_pos hk]
    simp
  | p :: P, w :: vs, i + 1, m, nd, h1, h2, hk => by
    show bindL kindOf ((p, w) :: P.zip vs) m x = _
    unfold bindL
    exact bindL_get (i := i) (List.nodup_cons.mp nd).2 (by simpa using h1) (by simpa using h2) hk
theorem bindC_get {kindOf : Str → Option NameKind} {x : Str} {v : Value} : ∀ {P : List Str} {vs : List Value} {i : Nat} {m : Str → Option Value}, P.Nodup → P[i]? = some x → vs[i]? = some v → kindOf x ≠ some .local →
    bindC kindOf (P.zip vs) m x = some v
  | [], _, _, _, _, h, _, _ => by simp at h
  | _ :: _, [], _, _, _, _, h, _ => by simp at h
  | p :: P, w :: vs, 0, m, nd, h1, h2, hk => by
    simp at h1 h2; subst h1; subst h2
    show bindC kindOf ((p, w) :: P.zip vs) m p = _
    unfold bindC
    rw [bindC_out fun v hv => (List.nodup_cons.mp nd).1 (List.of_mem_zip hv).1, if_neg hk]
    simp
  | p :: P, w :: vs, i + 1, m, nd, h1, h2, hk => by
    show bindC kindOf ((p, w) :: P.zip vs) m x = _
    unfold bindC
    exact bindC_get (i := i) (List.nodup_cons.mp nd).2 (by simpa using h1) (by simpa using h2) hk
noncomputable def start (N : List Str) (vs : List V) : St := vs.map some ++ List.replicate (N.length - vs.length) none
noncomputable def cxOf (CX : CXT) (P : Program) (w : World) (K : PySem.W.Frag) (mg : Str → Option Value) (base : Heap) (N : List Str) (qual : Str) (scope : Scope) (f : Addr) (cd : Value) (A : Around) (outer : List Env) (s : Shared) (H : Hp) (E : XK) : Cx where
  prog := P
  w := w
  K := K
  mg := mg
  base := base
  A := A.deeper (envOfC qual scope s.heap.objs.size f cd)
  N := N
  s₀ := s
  H₀ := H
  env := envOfC qual scope s.heap.objs.size f cd
  outer := outer
  stack := envOfC qual scope s.heap.objs.size f cd :: outer
  ex := []
  calm := true
  fn := fun _ => true
  pn := []
  xe := fun e s' => wpAny (model P w) (A.deeper (envOfC qual scope s.heap.objs.size f cd)) (leaving (envOfC qual scope s.heap.objs.size f cd) e) (fun _ s'' => CX outer H s E e s'') (fun e' s'' => CX outer H s E e' s'') s'
theorem cell_has {sc : Scope} {n : Nat} {x : Str} (h : sc.names.lookup x = some .cell) : ∃ c, (cellsFrom n sc.names []).lookup x = some c := by
  have q := PySem.W.cellsFrom_some sc.names n [] (.inl h)
  exact Option.isSome_iff_exists.mp q
theorem inv_start {CX : CXT} {P : Program} {w : World} {K : PySem.W.Frag} {mg : Str → Option Value} {base : Heap} {N ps : List Str} {qual : Str} {scope : Scope} {f : Addr} {cd : Value} {A : Around} {outer : List Env} {s s1 : Shared} {H : Hp} {E : XK} {us : List Value} {vs : List V}
    (S : FnScope N ps scope) (hd : A.handled = none) (e0 : Env0 P w K mg base A outer s H) (hl : vs.length = ps.length) (r : Vals vs us)
    (x : InCallC s s.heap.objs.size (bindL (envOfC qual scope s.heap.objs.size f cd).kindOf (ps.zip us) fun _ => none) (cellsFrom (s.heap.objs.size + 1) scope.names []) (bindC (envOfC qual scope s.heap.objs.size f cd).kindOf (ps.zip us) fun _ => none) s1) :
    Inv (cxOf CX P w K mg base N qual scope f cd A outer s H E) [] (start N vs) H s1 := by
  have hpl : ps.length ≤ N.length := by have := congrArg List.length S.pre; rw [List.length_take] at this; omega
  obtain ⟨h1, tk, rfl, hk⟩ := x.done
  have noA : ∀ b : Addr, b ∉ (cxOf CX P w K mg base N qual scope f cd A outer s H E).ex := fun b z => absurd (show b ∈ ([] : List Addr) from z) (by simp)
  refine ⟨⟨e0.mod, S.kind, rfl, rfl, Nat.le_refl _, fun y z c h1 h2 => ?_, fun y hy => ?_, fun y c _ h => ?_, fun _ => hd, Around.frames_deeper e0.frames, .inr ⟨rfl, rfl⟩, fun b z => absurd z (noA b), e0.bs, e0.bsz, fun b _ _ => noA b, fun b z => absurd z (noA b), e0.funs, e0.frf⟩,
    rfl, e0.bare, Un.kept hk, ⟨_, x.toInCall.ns, fun i y v h1 h2 h3 => ?_⟩, fun y c h => ⟨_, x.cell y c h⟩, e0.hok.fresh (Nat.le_refl _), fun y c h => ?_, fun p hp => absurd (show p ∈ ([] : List (Addr × Obj)) from hp) (by simp), e0.hok.kept hk, ?_⟩
  · exact name_of_addr x.apart (PySem.mem_of_lookup h1) (PySem.mem_of_lookup h2)
  · have hy : scope.names.lookup y = some .cell ∨ scope.names.lookup y = some .free := hy
    rcases hy with hy | hy
    · exact cell_has hy
    · exact absurd rfl (S.nofree _ (PySem.mem_of_lookup hy))
  · exact Nat.le_of_lt (x.above y c (PySem.mem_of_lookup h))
  · have hi : i < vs.length := by
      unfold start at h2
      by_cases hi : i < vs.length
      · exact hi
      · rw [List.getElem?_append_right (by simpa using hi)] at h2
        rw [List.getElem?_replicate] at h2
        split at h2 <;> cases h2
    have ha : vs[i]? = some v := by
      unfold start at h2
      rw [List.getElem?_append_left (by simpa using hi), List.getElem?_map] at h2
      cases e : vs[i]? with
      | none => rw [e] at h2; cases h2
      | some a => rw [e] at h2; cases h2; rfl
    obtain ⟨u, hu, rv⟩ := r.get ha
    have hp : ps[i]? = some y := by
      rw [← S.pre, List.getElem?_take_of_lt (by omega)]; exact h1
    have ndP : ps.Nodup := by rw [← S.pre]; exact S.nd.sublist (List.take_sublist _ _)
    refine ⟨u, rv, ?_⟩
    rcases S.par y (List.mem_of_getElem? hp) with k | k
    · exact .inl ⟨k, bindL_get ndP hp hu k⟩
    · obtain ⟨c, e⟩ := cell_has (n := s.heap.objs.size + 1) k
      refine .inr ⟨.inl k, c, e, ?_⟩
      have q := x.cell y c e
      rw [bindC_get ndP hp hu (by show scope.names.lookup y ≠ _; rw [k]; decide)] at q
      exact q
  · exact e0.hok.fresh (Nat.le_of_lt (x.above y c (PySem.mem_of_lookup h)))
  · unfold start
    show _ = N.length
    rw [List.length_append, List.length_map, List.length_replicate]
    omega
theorem fn_of {CX : CXT} {P : Program} {w : World} {K : PySem.W.Frag} {mg : Str → Option Value} {base : Heap} {k : Nat} {f : Addr} {name qual : Str} {params : Arguments} {body : List Stmt} {scope : Scope} {dV kV doc pm cdv ct oc : Value} {an od : Option Addr}
    {osl : Array (Option Value)} {N ps : List Str} {sp : Sp} (lk : K.lookup f = some ⟨oc, od, .func (PySem.W.fnOf name qual params body scope dV kV doc pm an cdv ct), osl⟩) (hcd : PySem.W.codeIn K cdv qual = true) (S : FnScope N ps scope)
    (len : ∀ vs H Q E, sp vs H Q E → vs.length = ps.length)
    (hbody : ∀ (A : Around) (outer : List Env) (s : Shared) (H : Hp) (vs : List V) (Q : VK) (E : XK), Room k (A.deeper (envOfC qual scope s.heap.objs.size f cdv)) → sp vs H Q E →
      ∃ t, PSs (cxOf CX P w K mg base N qual scope f cdv A outer s H E) body t ∧ t { nx := fun _ H' => Q .non H', rt := Q } (start N vs) H) :
    FnOk P w K mg base CX (k + 1) f (PySem.W.fnOf name qual params body scope dV kV doc pm an cdv ct) ps sp := by
  refine ⟨len, fun A outer s H args us vs Q E hr e0 hb r hsp => ?_⟩
  have hl := len _ _ _ _ hsp
  have KX : K.In s.heap := e0.mod.kin.keeps fun b o e => (e0.bs b o e).1
  have lim : s.heap.NoLimit := e0.mod.nolimit.keeps fun b o e => (e0.bs b o e).1
  have hkind : ∀ y ∈ ps.zip us, scope.names.lookup y.1 = some .local ∨ (scope.names.lookup y.1 = some .cell ∧ ((cellsFrom (s.heap.objs.size + 1) scope.names []).lookup y.1).isSome = true) := fun ⟨n, v⟩ hy => by
    rcases S.par n (List.of_mem_zip hy).1 with q | q
    · exact .inl q
    · exact .inr ⟨q, PySem.W.cellsFrom_some _ _ _ (.inl q)⟩
  refine codeAny_call_function hr.depth (KX _ _ lk) rfl S.co S.gen rfl (PySem.W.codeRec_of KX hcd) (hb _ _ _ _ ?_)
  refine wpAny_newFunctionEnv_cells S.kind hkind fun env he s1 x => ?_
  subst he
  refine ⟨lim.keeps x.toInCall.keep, codeAny_func ?_⟩
  obtain ⟨t, ht, hq⟩ := hbody A outer s H vs Q E (hr.deeper _) hsp
  have I : Inv (cxOf CX P w K mg base N qual scope f cdv A outer s H E) [] (start N vs) H s1 := inv_start S hr.hd e0 hl r x
  refine wpAny_mono (ht [] s1 (start N vs) H _ I hq) (fun fl s' hs => ?_) fun e s' hs => hs
  have fin : ∀ {σ' : St} {H' : Hp} {v : V} {u : Value}, Inv (cxOf CX P w K mg base N qual scope f cdv A outer s H E) [] σ' H' s' → RelV v u → Q v H' → CE outer P w H s Q u s' :=
    fun {σ' H' v u} J rv q => ⟨v, H', J.os, J.bare, J.base, J.hok, rv, q⟩
  cases fl with
  | ret u =>
    obtain ⟨v, σ', H', J, rv, q⟩ := hs
    exact fin J rv q
  | next =>
    obtain ⟨σ', H', J, q⟩ := hs
    exact fin (v := V.non) (u := Value.none) J rfl q
  | brk =>
    obtain ⟨_, _, _, q⟩ := hs
    exact False.elim q
  | cont =>
    obtain ⟨_, _, _, q⟩ := hs
    exact False.elim q
end L2
namespace L2
open PySem PySem.Spec PyProof.Rows
section
variable {X : Cx} {x : Str} {p pos : Pos} {e : Expr} {es : List Expr} {t : TA} {id T : String} {r : List V → Hp → VK → Prop}
noncomputable def tCB (r : List V → Hp → VK → Prop) (t : TA) : TE := fun σ H Q => t σ H fun vs H1 => r vs H1 Q
theorem pe_callB (hc : CallR X (.builtin id) r) (hg : Gl X x) (hm : X.mg x = none) (hv : bootBuiltins x = some (.builtin id)) (ha : PA X (e :: es) t) (hn : x ≠ "__name__" := by decide) (hdb : (x == ("__debug__" : Str)) = false := by decide)
    (he : starEach (e :: es) X.env = (false, eval e X.env) :: starEach es X.env := by rfl) (hpl : (backTo pos (starEach es X.env)).any (·.1) = false := by rfl) : PE X (.Call (.Name x p) (e :: es) [] pos) (tCB r t) := by
  intro pins s σ H Q I h
  refine wpAny_Call_Name_kw (ld_blt I hg hm hv ?_ hn hdb)
  exact PyProof.Rows.callWith_builtin1 (thn (ha pos pins s σ H _ I h) fun us s1 ⟨vs, H1, I1, r1, q1⟩ => hc pins s1 σ H1 vs us Q I1 r1 q1) he hpl
theorem pe_callTy (hc : CallR X (.type T) r) (hg : Gl X x) (hm : X.mg x = none) (hv : bootBuiltins x = some (.type T)) (ha : PA X (e :: es) t) (hn : x ≠ "__name__" := by decide) (hdb : (x == ("__debug__" : Str)) = false := by decide)
    (he : starEach (e :: es) X.env = (false, eval e X.env) :: starEach es X.env := by rfl) (hpl : (backTo pos (starEach es X.env)).any (·.1) = false := by rfl) : PE X (.Call (.Name x p) (e :: es) [] pos) (tCB r t) := by
  intro pins s σ H Q I h
  refine wpAny_Call_Name_kw (ld_blt I hg hm hv ?_ hn hdb)
  exact PyProof.Rows.callWith_type1 (thn (ha pos pins s σ H _ I h) fun us s1 ⟨vs, H1, I1, r1, q1⟩ => hc pins s1 σ H1 vs us Q I1 r1 q1) he hpl
end
end L2
namespace HT
open PySem PyProof.Rows
section
open PySem.SeqAt
open PySem.AutoSeq1 (wpAny_loadPart')
open PySem.MeetsSeq PySem.MeetsSeq2 PySem.MeetsSeq3
end
section
variable {prog : Program} {w : World} {A : Around} {E : Value → Shared → Prop} {s : Shared}
noncomputable def sIx (n d : Nat) : Option Int → Nat
  | none => d
  | some v => if v < 0 then (v + (n : Int)).toNat else min v.toNat n
theorem sIx_none (n d : Nat) : sIx n d none = d := rfl
theorem sIx_nat (n d k : Nat) : sIx n d (some (k : Int)) = min k n := by
  show (if (k : Int) < 0 then ((k : Int) + (n : Int)).toNat else min (k : Int).toNat n) = min k n
  rw [if_neg (by omega), Int.toNat_natCast]
end
end HT
namespace L2
open PySem PySem.Spec PyProof.Rows
noncomputable abbrev TO := St → Hp → (Option Int → Hp → Prop) → Prop
noncomputable def PO (X : Cx) (e : Option Expr) (t : TO) : Prop :=
  ∀ (pins : List (Addr × Obj)) (s : Shared) (σ : St) (H : Hp) (Q : Option Int → Hp → Prop), Inv X pins σ H s → t σ H Q →
    wpAny (model X.prog X.w) X.A (evalPart e X.env) (fun u s' => ∃ o H', Inv X pins σ H' s' ∧ IsPart u o ∧ Q o H') X.xe s
noncomputable def tNoPart : TO := fun _ H Q => Q none H
noncomputable def tPart (t : TE) : TO := fun σ H Q => t σ H fun x H1 => ∃ i, x = .int i ∧ Q (some i) H1
section
variable {X : Cx} {e : Expr} {te : TE} {lo hi : Option Expr} {tl th : TO} {pos p2 : Pos}
theorem po_none : PO X none tNoPart := by
  intro pins s σ H Q I h
  rw [evalPart_none]
  exact wpAny_pure ⟨none, H, I, .none, h⟩
theorem po_some (h : PE X e te) : PO X (some e) (tPart te) := by
  intro pins s σ H Q I hw
  rw [evalPart_some]
  refine thn (h pins s σ H _ I hw) fun u s1 ⟨x, H1, I1, r1, q1⟩ => ?_
  obtain ⟨i, rfl, q⟩ := q1
  obtain ⟨t, rfl⟩ := r1
  exact ⟨some i, H1, I1, .int i t, q⟩
noncomputable def SlR (X : Cx) (r : V → Option Int → Option Int → Hp → VK → Prop) : Prop :=
  ∀ (pins : List (Addr × Obj)) (s : Shared) (σ : St) (H : Hp) (x : V) (v vl vu : Value) (lo hi : Option Int) (sl : Addr) (Q : VK), Inv X pins σ H s → RelV x v → s.heap.IsSliceOf sl vl vu .none → IsPart vl lo → IsPart vu hi → r x lo hi H Q →
    ∃ T id, typeLookup (.type T) "__getitem__" = pure (some (.builtin id)) ∧ s.TypeIs v T ∧ wpAny (model X.prog X.w) X.A (getItem v (.ref sl)) (EP X pins σ Q) X.xe s
theorem SlR.or {r r' : V → Option Int → Option Int → Hp → VK → Prop} (h : SlR X r) (h' : SlR X r') : SlR X (fun x lo hi H Q => r x lo hi H Q ∨ r' x lo hi H Q) := by
  intro pins s σ H x v vl vu lo hi sl Q I rx hs pl pu q
  rcases q with q | q
  · exact h pins s σ H x v vl vu lo hi sl Q I rx hs pl pu q
  · exact h' pins s σ H x v vl vu lo hi sl Q I rx hs pl pu q
noncomputable def tSl (r : V → Option Int → Option Int → Hp → VK → Prop) (te : TE) (tl th : TO) : TE := fun σ H Q => te σ H fun x H1 => tl σ H1 fun l H2 => th σ H2 fun u H3 => r x l u H3 Q
theorem pe_slice {r : V → Option Int → Option Int → Hp → VK → Prop} (hr : SlR X r) (he : PE X e te) (hl : PO X lo tl) (hu : PO X hi th) : PE X (.Subscript e (.Slice lo hi none p2) pos) (tSl r te tl th) := by
  intro pins s σ H Q I h
  refine Subscript_ (thn (he pins s σ H _ I h) fun v s1 ⟨x, H1, I1, r1, q1⟩ => ?_)
  refine wpAny_Slice (thn (hl pins s1 σ H1 _ I1 q1) fun vl s2 ⟨l, H2, I2, pl, q2⟩ => thn (hu pins s2 σ H2 _ I2 q2) fun vu s3 ⟨u, H3, I3, pu, q3⟩ => ?_)
  rw [evalPart_none]
  refine wpAny_pure ?_
  have I4 : Inv X pins σ H3 { s3 with heap := s3.heap.push { cls := .type "slice", data := .fields #[vl, vu, .none] } } := I3.kept (t' := s3.toks) fun b ob q => Heap.get?_push_of_some _ q
  obtain ⟨T, id, hT, ht, hg⟩ := hr pins { s3 with heap := s3.heap.push { cls := .type "slice", data := .fields #[vl, vu, .none] } } σ H3 x v vl vu l u s3.heap.objs.size Q I4 r1 (Heap.IsSliceOf.new ..) pl pu q3
  show wpAny (model X.prog X.w) X.A (subscriptTail e (.Slice lo hi none p2) v (.ref s3.heap.objs.size)) (EP X pins σ Q) X.xe { s3 with heap := s3.heap.push { cls := .type "slice", data := .fields #[vl, vu, .none] } }
  exact tail_any (ops := [.ref s3.heap.objs.size, v]) ht hT hg (by with_unfolding_all rfl)
noncomputable def cutV (xs : List V) (lo hi : Option Int) : List V := (xs.drop (HT.sIx xs.length 0 lo)).take (HT.sIx xs.length xs.length hi - HT.sIx xs.length 0 lo)
theorem cutV_length (xs : List V) (lo hi : Option Int) : (cutV xs lo hi).length ≤ xs.length := by
  unfold cutV
  rw [List.length_take, List.length_drop]
  omega
end
end L2
namespace L2
open PySem PySem.Spec PyProof.Rows
noncomputable def ixN (n : Nat) (i : Int) : Option Nat := if 0 ≤ i then (if i < n then some i.toNat else none) else if -(n : Int) ≤ i then some (i + n).toNat else none
noncomputable def atI {α : Type} (xs : List α) (i : Int) : Option α := (ixN xs.length i).bind fun j => xs[j]?
theorem ixN_seq {n : Nat} {i : Int} {j : Nat} (h : ixN n i = some j) : seqIndex? i n = some j ∧ j < n ∧ -(n : Int) ≤ i ∧ i < n := by
  unfold ixN at h
  by_cases h0 : 0 ≤ i
  · rw [if_pos h0] at h
    by_cases h1 : i < n
    · rw [if_pos h1] at h
      have e : i.toNat = j := Option.some.inj h
      exact ⟨by rw [seqIndex_of h0 h1, e], by omega, by omega, h1⟩
    · rw [if_neg h1] at h; cases h
  · rw [if_neg h0] at h
    by_cases h1 : -(n : Int) ≤ i
    · rw [if_pos h1] at h
      have e : (i + n).toNat = j := Option.some.inj h
      exact ⟨by rw [seqIndex_neg (by omega) h1, e], by omega, h1, by omega⟩
    · rw [if_neg h1] at h; cases h
theorem atI_get {α : Type} {xs : List α} {i : Int} {v : α} (h : atI xs i = some v) : ∃ j, seqIndex? i xs.length = some j ∧ xs[j]? = some v ∧ j < xs.length ∧ -(xs.length : Int) ≤ i ∧ i < xs.length := by
  unfold atI at h
  cases e : ixN xs.length i with
  | none => rw [e] at h; cases h
  | some j =>
    rw [e] at h
    obtain ⟨h1, h2, h3, h4⟩ := ixN_seq e
    exact ⟨j, h1, h, h2, h3, h4⟩
theorem atI_nat {α : Type} {xs : List α} {j : Nat} {v : α} (h : xs[j]? = some v) : atI xs (j : Int) = some v := by
  have hj : j < xs.length := (List.getElem?_eq_some_iff.mp h).1
  have e : ixN xs.length (j : Int) = some j := by
    unfold ixN
    rw [if_pos (by omega), if_pos (by omega)]; simp
  unfold atI; rw [e]; exact h
noncomputable def PlainIx (b : Expr) : Prop := ∀ o i, subscripted b false o i = operate [o, i] (getItem o i)
noncomputable def IxR (X : Cx) (r : R2) : Prop :=
  ∀ (value slice : Expr) (pins : List (Addr × Obj)) (s : Shared) (σ : St) (H : Hp) (x y : V) (v u : Value) (Q : VK), Inv X pins σ H s → RelV x v → RelV y u → r x y H Q →
    subscripted slice false v u = operate [v, u] (getItem v u) → wpAny (model X.prog X.w) X.A (subscriptTail value slice v u) (EP X pins σ Q) X.xe s
noncomputable def MtR (X : Cx) (id : String) (r : V → List V → Hp → VK → Prop) : Prop :=
  ∀ (pins : List (Addr × Obj)) (s : Shared) (σ : St) (H : Hp) (x : V) (xs : List V) (v : Value) (us : List Value) (Q : VK), Inv X pins σ H s → RelV x v → Vals xs us → r x xs H Q →
    wpAny (model X.prog X.w) X.A (call (.builtin id) (v :: us)) (EP X pins σ Q) X.xe s
section
variable {X : Cx} {a b : Expr} {ta tb : TE} {pos : Pos}
theorem IxR.or {r r' : R2} (h : IxR X r) (h' : IxR X r') : IxR X (fun x y H Q => r x y H Q ∨ r' x y H Q) := by
  intro value slice pins s σ H x y v u Q I rx ry q hs
  rcases q with q | q
  · exact h value slice pins s σ H x y v u Q I rx ry q hs
  · exact h' value slice pins s σ H x y v u Q I rx ry q hs
theorem MtR.or {id : String} {r r' : V → List V → Hp → VK → Prop} (h : MtR X id r) (h' : MtR X id r') : MtR X id (fun x xs H Q => r x xs H Q ∨ r' x xs H Q) := by
  intro pins s σ H x xs v us Q I rx rs q
  rcases q with q | q
  · exact h pins s σ H x xs v us Q I rx rs q
  · exact h' pins s σ H x xs v us Q I rx rs q
theorem pe_ix {r : R2} (hr : IxR X r) (ha : PE X a ta) (hb : PE X b tb) (hs : PlainIx b) : PE X (.Subscript a b pos) (tOp r ta tb) := by
  intro pins s σ H Q I h
  exact Subscript_ (binT ha hb I h fun v u s2 x y H2 I2 rx ry q => hr a b pins s2 σ H2 x y v u Q I2 rx ry q (hs _ _))
noncomputable def rIxL (K : PySem.W.Frag) : R2 := fun x y H Q => ∃ p xs i v, x = .ref p ∧ y = .int i ∧ SqL K H p xs ∧ atI xs i = some v ∧ Q v H
noncomputable def rIxT (K : PySem.W.Frag) : R2 := fun x y H Q => ∃ p xs i v, x = .ref p ∧ y = .int i ∧ SqT K H p xs ∧ atI xs i = some v ∧ Q v H
theorem ix_list : IxR X (rIxL X.K) := by
  intro value slice pins s σ H x y v u Q I rx ry h hs
  obtain ⟨p, xs, i, z, rfl, rfl, hq, he, q⟩ := h
  cases rx
  obtain ⟨t, rfl⟩ := ry
  obtain ⟨its, r, pl, hz⟩ := I.list hq
  obtain ⟨j, h1, h2, h3, h4, h5⟩ := atI_get he
  obtain ⟨w, ew, rw'⟩ := r.get h2
  have hl := r.length
  have hn := line63
  have fin : EP X pins σ Q w s := ⟨z, H, I, rw', q⟩
  by_cases h0 : 0 ≤ i
  · have hj : i.toNat = j := by
      rw [seqIndex_of h0 h5] at h1
      exact Option.some.inj h1
    exact item_listR pl.isList h0 (by omega) (by rw [hj]; simpa using ew) fin hs
  · have hj : (i + (its.toArray.size : Int)).toNat = j := by
      rw [seqIndex_neg (by omega) h4] at h1
      rw [List.size_toArray, ← hl]
      exact Option.some.inj h1
    exact subscriptTail_builtinR (x := w) pl.isList.typeIs slot_list_getitem.lookup
      (wpAny_getItem_list_neg (Q := fun r s' => r = w ∧ EP X pins σ Q r s') pl.isList (by omega) (by rw [List.size_toArray] <;> omega) (by omega) (by rw [hj]; simpa using ew) ⟨rfl, fin⟩) hs
theorem ix_tup : IxR X (rIxT X.K) := by
  intro value slice pins s σ H x y v u Q I rx ry h hs
  obtain ⟨p, xs, i, z, rfl, rfl, hq, he, q⟩ := h
  cases rx
  obtain ⟨t, rfl⟩ := ry
  obtain ⟨its, r, pl, hz⟩ := I.tuple hq
  obtain ⟨j, h1, h2, h3, h4, h5⟩ := atI_get he
  obtain ⟨w, ew, rw'⟩ := r.get h2
  have hl := r.length
  have hn := line63
  have fin : EP X pins σ Q w s := ⟨z, H, I, rw', q⟩
  exact subscriptTail_builtinR (x := w) pl.typeIs slot_tuple_getitem.lookup
    (getItem_tuple (j := j) (Q := fun r s' => r = w ∧ EP X pins σ Q r s') pl (by omega) (by omega) (by rw [List.size_toArray, ← hl]; exact h1) (by simpa using ew) ⟨rfl, fin⟩) hs
theorem Inv.lst {pins : List (Addr × Obj)} {σ : St} {H : Hp} {s : Shared} {p : Addr} {xs : List V} (I : Inv X pins σ H s) (h : H p = some (.lst xs)) :
    ∃ (its : List Value) (n : Nat), Vals xs its ∧ s.heap.get? p = some { cls := .type "list", data := .seq its.toArray n } ∧ xs.length ≤ sizeLine := by
  obtain ⟨z, its, n, r, e⟩ := I.hok p _ h
  exact ⟨its, n, r, e, z⟩
theorem slice_bounds (lo hi : Option Int) (n : Nat) : (sliceBounds lo hi none n).1 = ((HT.sIx n 0 lo : Nat) : Int) ∧ (sliceBounds lo hi none n).2.1 = ((HT.sIx n n hi : Nat) : Int) ∧ (sliceBounds lo hi none n).2.2 = 1 := by
  refine ⟨?_, ?_, rfl⟩
  · cases lo with
    | none => simp [sliceBounds, HT.sIx]
    | some i =>
      simp only [sliceBounds, HT.sIx, Option.getD_none, show (1 : Int) > 0 by decide, if_true]
      by_cases h : i < 0
      · simp only [h, if_true] <;> omega
      · simp only [h, if_false] <;> omega
  · cases hi with
    | none => simp [sliceBounds, HT.sIx]
    | some i =>
      simp only [sliceBounds, HT.sIx, Option.getD_none, show (1 : Int) > 0 by decide, if_true]
      by_cases h : i < 0
      · simp only [h, if_true] <;> omega
      · simp only [h, if_false] <;> omega
theorem slicePick_cut (its : List Value) (lo hi : Option Int) : slicePick its.toArray lo hi none = ((its.drop (HT.sIx its.length 0 lo)).take (HT.sIx its.length its.length hi - HT.sIx its.length 0 lo)).toArray := by
  obtain ⟨h1, h2, h3⟩ := slice_bounds lo hi its.toArray.size
  unfold slicePick
  rw [h1, h2, h3]
  simp only [sliceRange_one, pick_run, List.size_toArray] <;> rfl
noncomputable def rSlL (K : PySem.W.Frag) : V → Option Int → Option Int → Hp → VK → Prop := fun x lo hi H Q => ∃ a xs, x = .ref a ∧ SqL K H a xs ∧ ∀ p, H p = none → Q (.ref p) (upd H p (.lst (cutV xs lo hi)))
theorem sl_list : SlR X (rSlL X.K) := by
  intro pins s σ H x v vl vu lo hi sl Q I rx hs pl pu h
  obtain ⟨a, xs, rfl, hx, q⟩ := h
  cases rx
  obtain ⟨its, r, ht, hz⟩ := I.list hx
  have hlen := r.length
  refine ⟨"list", _, slot_list_getitem.lookup, ht.isList.typeIs, ?_⟩
  refine wpAny_getItem_list_slice ht.isList hs pl pu .none (by simp) ?_ (by rw [List.size_toArray] <;> omega)
  rw [slicePick_cut, ← hlen]
  refine ⟨.ref s.heap.objs.size, _, I.laid (t' := s.toks) (o := .lst (cutV xs lo hi)) (fun b ob q => Heap.get?_push_of_some _ q) (Nat.le_refl _) ?_, rfl, q _ (I.hok.fresh (Nat.le_refl _))⟩
  exact ⟨Nat.le_trans (cutV_length xs lo hi) hz, _, 0, (r.drop (HT.sIx xs.length 0 lo)).take (HT.sIx xs.length xs.length hi - HT.sIx xs.length 0 lo), Heap.get?_push_size _ rfl⟩
theorem call_len_seq : CallR X (.builtin "len") (fun xs H Q => ∃ p ys, xs = [.ref p] ∧ (SqL X.K H p ys ∨ SqT X.K H p ys) ∧ Q (.int ys.length) H) := by
  intro pins s σ H xs us Q I r h
  obtain ⟨p, ys, rfl, hq, q⟩ := h
  obtain ⟨u, rfl, rx⟩ := vals1 r
  cases rx
  have hn := line63
  rcases hq with hq | hq
  · obtain ⟨its, r', pl, hz⟩ := I.list hq
    have hlen := r'.length
    exact Calls.call_len_list pl.isList (by simp only [List.size_toArray] <;> omega) ⟨.int ys.length, H, I.tok _, ⟨s.toks + 1, by rw [List.size_toArray, hlen]⟩, q⟩
  · obtain ⟨its, r', pl, hz⟩ := I.tuple hq
    have hlen := r'.length
    exact len_tuple pl (by simp only [List.size_toArray] <;> omega) ⟨.int ys.length, H, I.tok _, ⟨s.toks + 1, by rw [List.size_toArray, hlen]⟩, q⟩
theorem CallR.or {f : Value} {r r' : List V → Hp → VK → Prop} (h : CallR X f r) (h' : CallR X f r') : CallR X f (fun xs H Q => r xs H Q ∨ r' xs H Q) := by
  intro pins s σ H xs us Q I rs q
  rcases q with q | q
  · exact h pins s σ H xs us Q I rs q
  · exact h' pins s σ H xs us Q I rs q
theorem call_list_of : CallR X (.type "list") (fun xs H Q => ∃ p ys, xs = [.ref p] ∧ (SqL X.K H p ys ∨ SqT X.K H p ys) ∧ ∀ l, H l = none → Q (.ref l) (upd H l (.lst ys))) := by
  intro pins s σ H xs us Q I r h
  obtain ⟨p, ys, rfl, hq, q⟩ := h
  obtain ⟨u, rfl, rx⟩ := vals1 r
  cases rx
  have fin : ∀ (its : List Value), Vals ys its → ys.length ≤ sizeLine → ∀ (h' : Heap) (c' : Nat), (∀ b o', s.heap.get? b = some o' → h'.get? b = some o') →
      h'.get? s.heap.objs.size = some { cls := .type "list", dict := none, data := .seq its.toArray c', slots := #[] } → EP X pins σ Q (.ref s.heap.objs.size) { s with heap := h' } := fun its r' hz h' c' kp e =>
    ⟨.ref s.heap.objs.size, _, I.laid (t' := s.toks) kp (Nat.le_refl _) (show ObjOk X.prog X.w _ h' _ (.lst ys) from ⟨hz, its, c', r', e⟩), rfl, q _ (I.hok.fresh (Nat.le_refl _))⟩
  rcases hq with hq | hq
  · obtain ⟨its, r', pl, hz⟩ := I.list hq
    have hlen := r'.length
    obtain ⟨o, ho, hc, n, hd⟩ := pl.isList
    exact call_list_seq p (.inl rfl) ho hc hd (fun h' c' kp e => fin its r' hz h' c' kp e) (by simp only [List.size_toArray] <;> omega)
  · obtain ⟨its, r', pl, hz⟩ := I.tuple hq
    have hlen := r'.length
    obtain ⟨o, ho, hc, n, hd⟩ := pl
    exact call_list_seq p (.inr rfl) ho hc hd (fun h' c' kp e => fin its r' hz h' c' kp e) (by simp only [List.size_toArray] <;> omega)
noncomputable def tyV (K : PySem.W.Frag) (T : String) (x : V) (H : Hp) : Prop := match x with
  | .str _ => T = "str"
  | .int _ => T = "int"
  | .ref p => (T = "list" ∧ ∃ xs, SqL K H p xs) ∨ (T = "tuple" ∧ ∃ o, K.lookup p = some o ∧ o.cls = .type "tuple" ∧ o.dict = none) ∨
      (T = "dict" ∧ ((∃ kvs, H p = some (.dK kvs)) ∨ ∃ kvs, H p = some (.dT kvs))) ∨ (T = "set" ∧ ∃ S n, H p = some (.set S n))
  | _ => False
theorem tyV_is {pins : List (Addr × Obj)} {σ : St} {H : Hp} {s : Shared} {T : String} {x : V} {v : Value} (I : Inv X pins σ H s) (r : RelV x v) (ty : tyV X.K T x H) :
    s.TypeIs v T ∧ ∀ a, v = .ref a → ∃ ob, s.heap.get? a = some ob ∧ ob.dict = none := by
  cases x with
  | str z =>
    obtain ⟨t, rfl⟩ := r
    cases (show T = "str" from ty)
    exact ⟨typeIs_str s z t, fun _ e => nomatch e⟩
  | int i =>
    obtain ⟨t, rfl⟩ := r
    cases (show T = "int" from ty)
    exact ⟨typeIs_int s i t, fun _ e => nomatch e⟩
  | ref p =>
    cases r
    rcases ty with ⟨rfl, xs, hq⟩ | ⟨rfl, o, hk, hc, hd⟩ | ⟨rfl, hk⟩ | ⟨rfl, S, n, hk⟩
    · obtain ⟨its, _, pl, _⟩ := I.list hq
      refine ⟨pl.isList.typeIs, fun a e => ?_⟩
      cases e
      obtain ⟨o, n, e, c, hd, _⟩ := pl
      exact ⟨o, e, hd⟩
    · refine ⟨⟨o, I.kIn p o hk, hc⟩, fun a e => ?_⟩
      cases e
      exact ⟨o, I.kIn _ o hk, hd⟩
    · have z : ∃ o, s.heap.get? p = some o ∧ o.ExactDict := by
        rcases hk with ⟨kvs, hk⟩ | ⟨kvs, hk⟩
        · obtain ⟨_, _, _, _, o, _, _, e, ex, _⟩ := I.hok p _ hk
          exact ⟨o, e, ex⟩
        · obtain ⟨_, _, _, _, o, _, _, e, ex, _⟩ := I.hok p _ hk
          exact ⟨o, e, ex⟩
      obtain ⟨o, e, ex⟩ := z
      refine ⟨⟨o, e, ex.1⟩, fun a e2 => ?_⟩
      cases e2
      exact ⟨o, e, ex.2.1⟩
    · obtain ⟨o, _, _, _, e, ex, _⟩ := I.hok p _ hk
      refine ⟨⟨o, e, ex.1⟩, fun a e2 => ?_⟩
      cases e2
      exact ⟨o, e, ex.2.1⟩
  | _ => exact False.elim ty
noncomputable def tBM0 (K : PySem.W.Frag) (T : String) (r : V → List V → Hp → VK → Prop) (to : TE) : TE := fun σ H Q => to σ H fun x H1 => tyV K T x H1 ∧ r x [] H1 Q
noncomputable def tBM (K : PySem.W.Frag) (T : String) (r : V → List V → Hp → VK → Prop) (to : TE) (t : TA) : TE := fun σ H Q => to σ H fun x H1 => tyV K T x H1 ∧ t σ H1 fun xs H2 => r x xs H2 Q
variable {o e : Expr} {es : List Expr} {to : TE} {t : TA} {name : Str} {apos cpos : Pos} {T id : String} {r : V → List V → Hp → VK → Prop}
theorem pe_bm0 (pa : PlainAttrs T) (slot : Slot T name id) (hty : typeOf (.builtin id) = pure (.type "method_descriptor")) (hm : MtR X id r) (ho : PE X o to)
    (hbase : attributeBase o name X.env (eval o X.env) = eval o X.env := by rfl) (hline : (apos.endLine == cpos.line) = true := by rfl) : PE X (.Call (.Attribute o name apos) [] [] cpos) (tBM0 X.K T r to) := by
  intro pins s σ H Q I h
  refine wpAny_Call_method0_late hbase hline (thn (ho pins s σ H _ I h) fun v s1 ⟨x, H1, I1, r1, ty, q1⟩ => ?_)
  obtain ⟨h1, h2⟩ := tyV_is I1 r1 ty
  exact ⟨T, id, pa, slot, hty, h1, h2, Calls.callWith_builtin rfl (PySem.evalArgs_none (hm pins s1 σ H1 x [] v [] Q I1 r1 .nil q1))⟩
theorem pe_bm (pa : PlainAttrs T) (slot : Slot T name id) (hty : typeOf (.builtin id) = pure (.type "method_descriptor")) (hm : MtR X id r) (ho : PE X o to) (ha : PA X (e :: es) t)
    (hbase : attributeBase o name X.env (eval o X.env) = eval o X.env := by rfl)
    (hfew : ((backTo cpos (starEach (e :: es) X.env)).all (fun x => !x.1) && (backToKw cpos (keywordEach [] X.env)).all (fun x => x.1.isSome)
      && decide ((e :: es).length + ([] : List Keyword).length + (if ([] : List Keyword).isEmpty then 0 else 1) < 30)) = true := by rfl)
    (hline : (apos.endLine == cpos.line) = true := by rfl) (hs : starEach (e :: es) X.env = (false, eval e X.env) :: starEach es X.env := by rfl) (hplain : (backTo cpos (starEach es X.env)).any (·.1) = false := by rfl) :
    PE X (.Call (.Attribute o name apos) (e :: es) [] cpos) (tBM X.K T r to t) := by
  intro pins s σ H Q I h
  refine wpAny_Call_method_late hbase hfew hline rfl (thn (ho pins s σ H _ I h) fun v s1 ⟨x, H1, I1, r1, ty, q1⟩ => ?_)
  obtain ⟨h1, h2⟩ := tyV_is I1 r1 ty
  refine ⟨T, id, pa, slot, hty, h1, h2, ?_⟩
  have hA := ha cpos pins s1 σ H1 _ I1 q1
  rw [hs] at hA ⊢
  refine Calls.callWith_builtin (by show (false || (backTo cpos (starEach es X.env)).any (·.1)) = false; rw [hplain] <;> rfl) (Calls.evalArgs_plain ?_)
  exact thn hA fun us s2 ⟨vs, H2, I2, r2, q2⟩ => hm pins s2 σ H2 x vs v us Q I2 r1 r2 q2
end
end L2
namespace L2
open PySem PySem.Spec PyProof.Rows
noncomputable def MtM (X : Cx) (id : String) (r : V → List V → Hp → VK → Prop) : Prop :=
  ∀ (pins : List (Addr × Obj)) (s : Shared) (σ : St) (H : Hp) (x : V) (xs : List V) (v : Value) (us : List Value) (Q : VK), Inv X pins σ H s → RelV x v → Vals xs us → r x xs H Q →
    wpAny (model X.prog X.w) X.A (call (.builtin id) (v :: us)) (EP X pins σ Q) X.xe s
theorem Vals.one : ∀ {x : V} {us : List Value}, Vals [x] us → ∃ u, us = [u] ∧ RelV x u
  | _, _, .cons r .nil => ⟨_, rfl, r⟩
theorem Vals.two : ∀ {x y : V} {us : List Value}, Vals [x, y] us → ∃ u v, us = [u, v] ∧ RelV x u ∧ RelV y v
  | _, _, _, .cons r (.cons q .nil) => ⟨_, _, rfl, r, q⟩
theorem Vals.zero : ∀ {us : List Value}, Vals [] us → us = []
  | _, .nil => rfl
theorem Vals.dropLast {xs : List V} {us : List Value} (h : Vals xs us) : Vals xs.dropLast us.dropLast := by
  induction h with
  | nil => exact .nil
  | cons r t ih =>
    cases t with
    | nil => exact .nil
    | cons q t' => exact .cons r ih
theorem Vals.rep {xs : List V} {us : List Value} (h : Vals xs us) : ∀ k : Nat, Vals (List.replicate k xs).flatten (List.replicate k us).flatten
  | 0 => .nil
  | k + 1 => by
    rw [List.replicate_succ, List.replicate_succ, List.flatten_cons, List.flatten_cons]
    exact Vals.append h (Vals.rep h k)
theorem erase_last {α : Type} (l : List α) : l.eraseIdx (l.length - 1) = l.dropLast := by
  induction l with
  | nil => rfl
  | cons a r ih =>
    cases r with
    | nil => rfl
    | cons b r =>
      have e : (a :: b :: r).length - 1 = ((b :: r).length - 1) + 1 := by
        have h1 : (a :: b :: r).length = r.length + 2 := rfl
        have h2 : (b :: r).length = r.length + 1 := rfl
        omega
      rw [e, List.eraseIdx_cons_succ, ih]
      all_goals rfl
theorem foldl_rep (its : List Value) : ∀ (k : Nat) (acc : List Value),
    List.foldl (fun x1 x2 => x1 ++ x2) acc.toArray (List.replicate k its.toArray) = (acc ++ (List.replicate k its).flatten).toArray
  | 0, acc => by simp
  | k + 1, acc => by
    have e : acc.toArray ++ its.toArray = (acc ++ its).toArray := by simp
    have e2 : (acc ++ its) ++ (List.replicate k its).flatten = acc ++ (List.replicate (k + 1) its).flatten := by
      rw [List.replicate_succ, List.flatten_cons, List.append_assoc]
    rw [← e2, ← foldl_rep its k (acc ++ its), ← e, List.replicate_succ, List.foldl_cons]
section
variable {X : Cx} {pins : List (Addr × Obj)} {σ : St} {H : Hp} {s : Shared} {l b : Addr} {xs ys zs : List V}
theorem Inv.lset {its its' : List Value} {n : Nat} {f : Array Value → Array Value} {t' : Nat} (I : Inv X pins σ H s) (hH : H l = some (.lst xs))
    (e : s.heap.get? l = some { cls := .type "list", data := .seq its.toArray n }) (hf : f its.toArray = its'.toArray) (hv : Vals ys its') (hz : ys.length ≤ sizeLine) :
    Inv X pins σ (upd H l (.lst ys)) { s with heap := s.heap.update l (Obj.mapSeq f), toks := t' } := by
  have q := PySem.IsL.update e f
  rw [hf] at q
  refine I.write (x := l) (e := l) (by rw [hH]; exact trivial) (.inl rfl) (fun b' u hb hu => (Heap.get?_update_other s.heap (Obj.mapSeq f) (Ne.symm hb)).trans hu) ⟨_, q⟩ ?_
  exact ⟨hz, its', _, hv, q⟩
theorem Inv.lnew {its : List Value} {t' : Nat} (I : Inv X pins σ H s) (hv : Vals ys its) (hz : ys.length ≤ sizeLine) :
    Inv X pins σ (upd H s.heap.objs.size (.lst ys)) { s with heap := s.heap.push { cls := .type "list", data := .seq its.toArray }, toks := t' } :=
  I.laid (fun _ _ q => Heap.get?_push_of_some _ q) (Nat.le_refl _) ⟨hz, its, 0, hv, Heap.get?_push_size _ rfl⟩
theorem Inv.fresh (I : Inv X pins σ H s) : H s.heap.objs.size = none := I.hok.fresh (Nat.le_refl _)
theorem Inv.lstM (I : Inv X pins σ H s) (hH : H l = some (.lst xs)) : xs.length ≤ sizeLine ∧ ∃ (its : List Value) (n : Nat), Vals xs its ∧ xs.length = its.length ∧ s.heap.get? l = some { cls := .type "list", data := .seq its.toArray n } := by
  obtain ⟨z, its, n, r, e⟩ := I.hok l _ hH
  exact ⟨z, its, n, r, r.length, e⟩
theorem notLongL {n : Nat} (h : n ≤ sizeLine) : Builtin.List.listTooLong n = false := by
  unfold Builtin.List.listTooLong
  exact decide_eq_false (by omega)
end
section
variable {X : Cx}
noncomputable def rAppend : V → List V → Hp → VK → Prop := fun x vs H Q => ∃ l xs y, x = .ref l ∧ vs = [y] ∧ H l = some (.lst xs) ∧ xs.length < sizeLine ∧ Q .non (upd H l (.lst (xs ++ [y])))
theorem mt_append : MtM X "list.append" rAppend := by
  intro pins s σ H x vs v us Q I rx rv h
  obtain ⟨l, xs, y, rfl, rfl, hH, hz, q⟩ := h
  cases rx
  obtain ⟨u, rfl, ru⟩ := rv.one
  obtain ⟨z, its, n, r, hl, e⟩ := I.lstM hH
  refine call_meets F.slot_list_append ⟨_, e, rfl⟩ F.entry_list_append (F.args_list_append_2 _ _) (PySem.list_append l its.toArray n u (by rw [List.size_toArray]; omega)) ⟨e, ?_⟩
  refine ⟨.non, _, I.lset (its' := its ++ [u]) hH e (by simp) (r.append (.cons ru .nil)) ?_, rfl, q⟩
  rw [List.length_append, List.length_singleton]
  omega
noncomputable def rPop : V → List V → Hp → VK → Prop := fun x vs H Q => ∃ l xs y, x = .ref l ∧ vs = [] ∧ H l = some (.lst xs) ∧ xs[xs.length - 1]? = some y ∧ Q y (upd H l (.lst xs.dropLast))
theorem mt_pop : MtM X "list.pop" rPop := by
  intro pins s σ H x vs v us Q I rx rv h
  obtain ⟨l, xs, y, rfl, rfl, hH, hy, q⟩ := h
  cases rx
  have hus := rv.zero
  subst hus
  obtain ⟨z, its, n, r, hl, e⟩ := I.lstM hH
  obtain ⟨u, hu, ru⟩ := r.get hy
  have hy' : its.toArray[its.toArray.size - 1]? = some u := by
    show its.toArray[its.length - 1]? = some u
    rw [← Array.getElem?_toList, ← hl]
    exact hu
  refine call_meets F.slot_list_pop ⟨_, e, rfl⟩ F.entry_list_pop (F.args_list_pop_1 _) (MeetsSeq.list_pop_last l its.toArray n u hy' (by rw [List.size_toArray]; omega)) ⟨e, ?_⟩
  refine ⟨y, _, I.lset (its' := its.dropLast) hH e ?_ r.dropLast ?_, ru, q⟩
  · show its.toArray.eraseIdxIfInBounds (its.toArray.size - 1) = its.dropLast.toArray
    rw [List.size_toArray, List.eraseIdxIfInBounds_toArray, erase_last]
  · rw [List.length_dropLast]
    omega
noncomputable def rCat : R2 := fun x y H Q => ∃ l b xs zs, x = .ref l ∧ y = .ref b ∧ H l = some (.lst xs) ∧ H b = some (.lst zs) ∧ xs.length + zs.length ≤ sizeLine ∧ ∀ p, H p = none → Q (.ref p) (upd H p (.lst (xs ++ zs)))
theorem op_cat : OpR X (binaryOp .Add) rCat := by
  intro pins s σ H x y v u Q I rx ry h
  obtain ⟨l, b, xs, zs, rfl, rfl, hH, hB, hz, q⟩ := h
  cases rx
  cases ry
  obtain ⟨z, its, n, r, hl, e⟩ := I.lstM hH
  obtain ⟨z2, its2, n2, r2, hl2, e2⟩ := I.lstM hB
  refine PySem.P.add_list e e2 ?_ (by rw [List.size_toArray, List.size_toArray]; omega)
  have ea : its.toArray ++ its2.toArray = (its ++ its2).toArray := by simp
  rw [ea]
  exact ⟨.ref _, _, I.lnew (t' := s.toks) (r.append r2) (by rw [List.length_append]; omega), rfl, q _ I.fresh⟩
noncomputable def rRep : R2 := fun x y H Q => ∃ l k xs, x = .ref l ∧ y = .int k ∧ H l = some (.lst xs) ∧ -(2 ^ 63) ≤ k ∧ k < 2 ^ 63 ∧ xs.length * k.toNat ≤ sizeLine ∧
  ∀ p, H p = none → Q (.ref p) (upd H p (.lst (List.replicate k.toNat xs).flatten))
theorem len_rep {α : Type} (xs : List α) (k : Nat) : (List.replicate k xs).flatten.length = k * xs.length := by
  induction k with
  | zero => simp
  | succ k ih => rw [List.replicate_succ, List.flatten_cons, List.length_append, ih, Nat.succ_mul, Nat.add_comm]
theorem op_rep : OpR X (binaryOp .Mult) rRep := by
  intro pins s σ H x y v u Q I rx ry h
  obtain ⟨l, k, xs, rfl, rfl, hH, h1, h2, hz, q⟩ := h
  cases rx
  obtain ⟨t, rfl⟩ := ry
  obtain ⟨z, its, n, r, hl, e⟩ := I.lstM hH
  have hlen : its.toArray.size * k.toNat ≤ sizeLine := by rw [List.size_toArray, ← hl]; exact hz
  have hcap : ¬ its.toArray.size * k.toNat > (2 ^ 63 - 1) / 8 := by
    have : (sizeLine : Nat) ≤ (2 ^ 63 - 1) / 8 := by decide
    omega
  have hfit : ¬ (!Builtin.List.listFitsIndex k) = true := by
    rw [fitsIndex_both h1 h2]
    exact Bool.false_ne_true
  have hlong : ¬ Builtin.List.listTooLong (its.toArray.size * k.toNat) = true := by
    rw [notLongL hlen]
    exact Bool.false_ne_true
  have hnew : List.foldl (fun x1 x2 => x1 ++ x2) #[] (List.replicate (if its.toArray.isEmpty = true then 0 else k.toNat) its.toArray) = (List.replicate k.toNat its).flatten.toArray := by
    have f0 : ∀ m : Nat, List.foldl (fun x1 x2 => x1 ++ x2) #[] (List.replicate m its.toArray) = (List.replicate m its).flatten.toArray := fun m => by
      have := foldl_rep its m []
      rw [List.nil_append] at this
      exact this
    rw [f0]
    cases its with
    | nil => simp
    | cons a r' => rw [if_neg (by simp)]
  refine wpAny_binaryOp_repeat_ref (T := "list") (U := "int") (by decide) ⟨_, e, rfl⟩ (fun s' => typeIs_int s' k t) noFill_list_mul F.fills_int_mul F.slot_int_rmul repeat_list F.slot_int_index.lookup
    (call_meets F.slot_int_rmul (typeIs_int s k t) F.entry_int_rmul (F.args_int_rmul_2 _ _) (int___rmul___int_list k t l its.toArray n)
      ⟨e, rfl, ⟨_, e, rfl⟩, call_meets F.slot_list_mul ⟨_, e, rfl⟩ F.entry_list_mul (F.args_list_mul_2 _ _) (AutoListH.list___mul___list_int_3 l its.toArray n k t hfit hcap hlong) ⟨e, ?_⟩⟩)
  rw [hnew]
  exact ⟨.ref _, _, I.lnew (t' := s.toks) (r.rep k.toNat) (by rw [len_rep, Nat.mul_comm]; exact hz), rfl, q _ I.fresh⟩
end
section
variable {prog : Program} {w : World} {A : Around} {E : Value → Shared → Prop} {s : Shared}
set_option maxRecDepth 100000 in
end
section
variable {X : Cx}
end
end L2
namespace Att
open PySem PySem.W PySem.Calls PyProof.Rows
theorem ints_of_wellAll {P : Params} {h : Heap} : ∀ (ns : List Int) (vs : List Value), WellAll P h vs (ns.map WData.int) → IntsAre vs ns := by
  intro ns
  induction ns with
  | nil =>
    intro vs w
    rw [List.map_nil] at w
    cases w
    exact .nil
  | cons n ns ih =>
    intro vs w
    rw [List.map_cons] at w
    cases w with
    | cons a b =>
      cases a
      exact .cons _ _ (ih _ b)
theorem script_of {l : OpenLaw} {n : Nat} (hn : l.most = some n) {P : Params} {h : Heap} {args : List WData} {vals : List Value}
    (hpre : l.row.toRowW.claim.pre args = true) (hwl : WellAll P h vals args) :
    ∃ a vs ns, vals = [Value.ref a] ∧ args = [WData.list (ns.map WData.int)] ∧ h.get? a = some { cls := .type "list", data := .seq vs.toArray } ∧ IntsAre vs ns ∧ ns.length ≤ n := by
  have hsh : WShape.hasAll [] args [.list .int] = true := (pre_splitW hpre).1
  have hc : l.pre.holds [] { args := args } = true := (pre_splitW hpre).2
  obtain ⟨d, r, rfl, h1, h2⟩ := hasAllW_cons hsh
  obtain rfl := hasAllW_nil h2
  obtain ⟨xs, rfl, h3⟩ := hasW_list h1
  obtain ⟨ns, rfl⟩ := items_int h3
  have hlen : ns.length ≤ n := by
    unfold OpenLaw.pre at hc
    have h4 : (WTm.not (.lt (.lit (.int (n : Int))) (.len (.arg 0)))).holds [] { args := [.list (ns.map .int)] } = true := by
      have h4 := (holds_andW hc).1
      rw [hn] at h4
      exact h4
    have h5 := condW_of h4 (w_not (w_lt w_lit (w_len_list (w_arg rfl))))
    rw [List.length_map] at h5
    refine Nat.le_of_not_lt fun q => ?_
    have q' : (n : Int) < ((ns.length : Nat) : Int) := by omega
    first
      | (rw [decide_eq_true q'] at h5; exact absurd h5 (by decide))
      | (simp at h5; omega)
  cases hwl with
  | cons w1 w2 =>
    cases w2
    cases w1 with
    | list ho hall => exact ⟨_, _, ns, rfl, rfl, ho, ints_of_wellAll ns _ hall, hlen⟩
theorem post_true (l : OpenLaw) (args : List WData) : l.row.toRowW.claim.post args (.bool true) args = true :=
  postW_of (r := l.row.toRowW) (X := (true == true))
    (show WShape.has [] (.bool true) .bool = true by first | rfl | decide | simp [WShape.has, WShape.arms, WShape.armsAll])
    (show (WTm.eq .res (.lit (.bool true))).value [] { args := args, res := some (.bool true), after := args } = some (.bool (true == true)) from w_eq_bool (w_res rfl) w_lit) rfl
theorem attach_call {l : OpenLaw} {n : Nat} {q : Program} {loose : List Str} {XP : (Str → Option Value) → Heap → Prop} {YP : World → Heap → Prop} {d : DefRec}
    (hn : l.most = some n) (hdf : d.params.defaults = [])
    (call : ∀ (w : World) (s₀ s₁ : Shared) (mg mb : Str → Option Value) (fa : Addr) (o : Obj) (pm cd doc : Value) (a : Addr) (vs : List Value) (ns : List Int),
      Ground q loose [] XP w s₀ mg mb s₁.heap → YP w s₁.heap →
      s₁.heap.get? fa = some o → o.data = .func (docDef d.name d.params d.body d.scope pm cd doc) → s₁.heap.CodeRec cd d.name → mg d.name = some (.ref fa) →
      s₁.heap.get? a = some { cls := .type "list", data := .seq vs.toArray } → IntsAre vs ns → ns.length ≤ n → s₁.gens = #[] →
      codeAny (model l.prog w) callerA (.call (.ref fa) ⟨[.ref a], []⟩) (fun r s' => r = .ok (.ret (.bool true)) ∧ OldK s₁.heap s'.heap ∧ s'.os = s₁.os ∧ AllBare s'.gens) s₁) :
    WalkO q loose XP YP l.row.toRowW d [] (fun f vs => PySem.call f vs) := by
  intro w s₀ s₁ mg mb G Y fa o pm cd doc dV kV ho hd hcd hD hmg hg args vals as hpre hlay hrd hwl hlo
  obtain rfl : dV = .none := Dflts.none hD hdf
  obtain rfl : kV = .none := Dflts.noKw hD
  obtain ⟨a, vs, ns, rfl, rfl, hobj, hints, hlen⟩ := script_of hn hpre hwl
  refine enter_call (codeAny_mono (call w s₀ s₁ mg mb fa o pm cd doc a vs ns G Y ho (fd_plain hd) hcd hmg hobj hints hlen hg) fun r s' hq => ?_)
  obtain ⟨rfl, h2, h3, h4⟩ := hq
  exact ⟨.inl ⟨.bool true, .bool true, [], rfl, fun _ => rfl, .bool true, post_true l _, fun _ => ⟨List.Pairwise.nil, fun _ hm => (nomatch hm)⟩⟩, h2, h3, h4⟩
section
variable {prog : Program} {w : World} {A : Around} {E : Value → Shared → Prop} {s : Shared} {K : Frag}
noncomputable def ledger (h : Heap) (L d : Addr) : List (Addr × Obj) := (List.range h.objs.size).filterMap fun a => if a = L ∨ a = d then none else (h.get? a).map fun o => (a, o)
end
end Att
namespace L2
open PySem PySem.Spec PyProof.Rows
theorem vals_ints : ∀ {vs : List Value} {ns : List Int}, IntsAre vs ns → Vals (ns.map V.int) vs
  | _, _, .nil => .nil
  | _, _, .cons n t h => .cons ⟨t, rfl⟩ (vals_ints h)
noncomputable def Only (H : Hp) : Prop := ∀ b, H b = none ∨ ∃ o xs, H b = some (.frz o (.lst xs))
theorem law_call {P : Program} {w : World} {K : PySem.W.Frag} {mg mb : Str → Option Value} {CX : CXT} {k : Nat} {fa a : Addr} {fd : FuncData} {x : Str} {sp : Sp} {s₁ : Shared} {vs : List Value} {ns : List Int}
    (KX : K.In s₁.heap) (hns : s₁.heap.Ns mainGlobals mg) (hb : s₁.heap.Ns builtinsNs mb) (hbb : ∀ x : Str, x ≠ "__name__" → mb x = bootBuiltins x) (hlim : s₁.heap.NoLimit) (hg : s₁.gens = #[])
    (ha : s₁.heap.get? a = some { cls := .type "list", data := .seq vs.toArray }) (hi : IntsAre vs ns) (hl : ns.length ≤ sizeLine) (hr : Room k callerA)
    (F : ∀ base : Heap, K.In base → base.Ns mainGlobals mg → FnOk P w K mg base CX k fa fd [x] sp) (hbind : ∀ (s : Shared) (u : Value), BindsTo s fd ⟨[u], []⟩ [(x, u)])
    (hsp : ∀ H : Hp, Only H → SqL K H a (ns.map V.int) → sp [.ref a] H (fun v _ => v = .bl true) fun _ _ _ => False)
    (hCX : ∀ H e s', CX [] H s₁ (fun _ _ _ => False) e s' → False) :
    codeAny (model P w) callerA (.call (.ref fa) ⟨[.ref a], []⟩) (fun r s' => r = .ok (.ret (.bool true)) ∧ OldK s₁.heap s'.heap ∧ s'.os = s₁.os ∧ AllBare s'.gens) s₁ := by
  have rv := vals_ints hi
  have lenV := hi.length
  have core : ∀ H : Hp, Only H → SqL K H a (ns.map V.int) → HOk P w H s₁.heap → (∀ b, H b ≠ none → b = a) → (H a ≠ none → K.lookup a = none) →
      codeAny (model P w) callerA (.call (.ref fa) ⟨[.ref a], []⟩) (fun r s' => r = .ok (.ret (.bool true)) ∧ OldK s₁.heap s'.heap ∧ s'.os = s₁.os ∧ AllBare s'.gens) s₁ := by
    intro H hO hS hok hA hK
    have base_of : ∀ {b : Addr} {o : Obj}, s₁.heap.get? b = some o → H b = none → (hidT s₁.heap H).get? b = some o := fun e n => hidT_get e n
    have noA : ∀ {b : Addr} {o : Obj} {es : Array DictEntry} {ep : Nat}, s₁.heap.get? b = some o → o.data = .dict es ep → H b = none := fun {b o es ep} e d => by
      cases q : H b with
      | none => rfl
      | some u =>
        have e' : b = a := hA b (by rw [q]; simp)
        subst e'
        rw [ha] at e; cases e
        have d' : Data.seq vs.toArray _ = Data.dict es ep := d
        cases d'
    have nsK : ∀ {b : Addr} {m : Str → Option Value}, s₁.heap.Ns b m → (hidT s₁.heap H).Ns b m := fun {b m} ⟨o, es, ep, e, d, r⟩ => ⟨o, es, ep, base_of e (noA e d), d, r⟩
    have hKb : K.In (hidT s₁.heap H) := fun b o e => base_of (KX b o e) (by
      cases q : H b with
      | none => rfl
      | some u =>
        have e' : b = a := hA b (by rw [q]; simp)
        subst e'
        rw [hK (by rw [q]; simp)] at e; cases e)
    have hM : Mod K mg (hidT s₁.heap H) := ⟨hKb, nsK hns, ⟨mb, nsK hb, hbb⟩, let ⟨mc, h1, h2⟩ := hlim; ⟨mc, nsK h1, h2⟩⟩
    have e0 : Env0 P w K mg (hidT s₁.heap H) callerA [] s₁ H := ⟨rfl, hM, fun b o e => of_hidT e, Nat.le_of_eq (hidT_size _ _), trivial, fun b hb => absurd (show b ∈ ([] : List Addr) from hb) (by simp), hok, .of_eq hg⟩
    refine codeAny_mono ((F _ hKb (nsK hns)).run callerA [] s₁ H ⟨[.ref a], []⟩ [.ref a] [.ref a] _ _ hr e0 (hbind s₁ (.ref a)) (.cons rfl .nil) (hsp H hO hS)) fun r s' h => ?_
    cases r with
    | error e => exact (hCX H e s' h).elim
    | ok fl =>
      cases fl with
      | next => exact False.elim h
      | brk => exact False.elim h
      | cont => exact False.elim h
      | ret u =>
        obtain ⟨v, H', os, bare, un, hok', r', q⟩ := h
        have q' : v = .bl true := q
        subst q'
        obtain rfl : u = Value.bool true := r'
        refine ⟨rfl, OldK.of_keep fun b o e => ?_, os, bare⟩
        cases q : H b with
        | none => exact un.keep b o e q (by intro z; exact absurd (show b ∈ ([] : List Addr) from z) (by simp)) (by simp)
        | some u =>
          rcases hO b with z | ⟨ob, xs, z⟩
          · rw [q] at z; cases z
          · have z2 := un.frzs b ob _ z
            obtain ⟨e1, _⟩ := hok b _ z
            obtain ⟨e2, _⟩ := hok' b _ z2
            rw [e] at e1; cases e1
            exact e2
  cases hk : K.lookup a with
  | some o =>
    have e := KX a o hk
    rw [ha] at e
    cases e
    refine core (fun _ => none) (fun _ => .inl rfl) (.inr ⟨_, vs.toArray, _, hk, rfl, rfl, rfl, by rw [List.size_toArray, lenV]; exact hl, by simpa using rv⟩) (fun b u z => by have z' : (none : Option HO) = some u := z; cases z') (fun b z => absurd rfl z) fun z => absurd rfl z
  | none =>
    refine core (fun b => if b = a then some (.frz { cls := .type "list", data := .seq vs.toArray } (.lst (ns.map V.int))) else none) (fun b => ?_) (.inl (.inr ⟨{ cls := .type "list", data := .seq vs.toArray }, if_pos rfl⟩)) (fun b u z => ?_) (fun b z => ?_) fun _ => hk
    · by_cases hb : b = a
      · exact .inr ⟨_, _, if_pos hb⟩
      · exact .inl (if_neg hb)
    · by_cases hb : b = a
      · have z' := (if_pos hb).symm.trans z
        cases z'
        subst hb
        exact ⟨ha, by rw [List.length_map]; exact hl, vs, _, rv, ha⟩
      · have z' := (if_neg hb).symm.trans z
        cases z'
    · by_cases hb : b = a
      · exact hb
      · exact absurd (if_neg hb) z
end L2
namespace L2
open PySem PySem.Spec PyProof.Rows
noncomputable abbrev KOf {K : PySem.W.Frag} {h : Heap} (_ : K.In h) : PySem.W.Frag := K
theorem walk_of {l : PySem.W.OpenLaw} {n k : Nat} {q : Program} {loose : List Str} {XP : (Str → Option Value) → Heap → Prop} {YP : World → Heap → Prop} {d : DefRec} {K : Params → PySem.W.Frag} {CX : World → CXT} {sp : World → Sp} {x : Str}
    (hn : l.most = some n) (hn2 : n ≤ sizeLine) (hdf : d.params.defaults = []) (hr : Room k callerA)
    (hY : ∀ (w : World) (h : Heap), YP w h → (K w.params).In h)
    (F : ∀ (w : World) (mg : Str → Option Value) (fa : Addr) (h : Heap), (K w.params).In h → h.Ns mainGlobals mg → mg d.name = some (.ref fa) →
      ∃ fd : FuncData, (∀ (s : Shared) (u : Value), BindsTo s fd ⟨[u], []⟩ [(x, u)]) ∧
        ∀ base : Heap, (K w.params).In base → base.Ns mainGlobals mg → FnOk l.prog w (K w.params) mg base (CX w) k fa fd [x] (sp w))
    (hsp : ∀ (w : World) (H : Hp) (a : Addr) (ns : List Int), ns.length ≤ n → Only H → SqL (K w.params) H a (ns.map V.int) → sp w [.ref a] H (fun v _ => v = .bl true) fun _ _ _ => False)
    (hCX : ∀ (w : World) (H : Hp) (s : Shared) (e : Value) (s' : Shared), CX w [] H s (fun _ _ _ => False) e s' → False) :
    PySem.W.WalkO q loose XP YP l.row.toRowW d [] (fun f vs => PySem.call f vs) := by
  refine Att.attach_call hn hdf fun w s₀ s₁ mg mb fa o pm cd doc a vs ns G Y ho hd hcd hmg hobj hints hlen hg => ?_
  have KX := hY w _ Y
  obtain ⟨fd, hb, hF⟩ := F w mg fa _ KX G.T.g hmg
  exact law_call KX G.T.g G.T.b G.T.builtins G.T.nolimit hg hobj hints (Nat.le_trans hlen hn2) hr hF hb (fun H hO hS => hsp w H a ns hlen hO hS) fun H e s' => hCX w H s₁ e s'
end L2
namespace L2
open PySem PySem.Spec PyProof.Rows
noncomputable def defArgs (s : Stmt) : Arguments := match s with
  | .FunctionDef _ a _ _ _ _ _ _ _ _ => a
  | _ => { posonlyargs := [], args := [], vararg := none, kwonlyargs := [], kw_defaults := [], kwarg := none, defaults := [] }
noncomputable def defBody (s : Stmt) : List Stmt := match s with
  | .FunctionDef _ _ b _ _ _ _ _ _ _ => b
  | _ => []
noncomputable def defScope (s : Stmt) : Scope := match s with
  | .FunctionDef _ _ _ _ _ _ sc _ _ _ => sc
  | _ => { kind := .function, names := [], isGenerator := false, isCoroutine := false }
noncomputable abbrev CX0 : CXT := fun _ _ _ _ _ _ => False
noncomputable abbrev E0 : XK := fun _ _ _ => False
structure Fun (K : PySem.W.Frag) (x qual : Str) (st : Stmt) (f : Addr) (fd : FuncData) : Prop where
  ex : ∃ (oc : Value) (od : Option Addr) (kV doc pm : Value) (an : Option Addr) (cdv ct : Value) (osl : Array (Option Value)),
    fd = PySem.W.fnOf x qual (defArgs st) (defBody st) (defScope st) .none kV doc pm an cdv ct ∧ K.lookup f = some ⟨oc, od, .func fd, osl⟩ ∧ PySem.W.codeIn K cdv qual = true
  kp : PySem.W.keepIn K (.ref f) = true
section
variable {P : Program} {w : World} {K : PySem.W.Frag} {mg : Str → Option Value} {base : Heap}
theorem Fun.ok {x qual : Str} {st : Stmt} {f : Addr} {fd : FuncData} {N ps : List Str} {k : Nat} {sp : Sp} (F : Fun K x qual st f fd) (S : FnScope N ps (defScope st)) (len : ∀ vs H Q E, sp vs H Q E → vs.length = ps.length)
    (hbody : ∀ (cdv : Value) (A : Around) (outer : List Env) (s : Shared) (H : Hp) (vs : List V) (Q : VK) (E : XK), Room k (A.deeper (envOfC qual (defScope st) s.heap.objs.size f cdv)) → sp vs H Q E →
      ∃ t, PSs (cxOf CX0 P w K mg base N qual (defScope st) f cdv A outer s H E).nox (defBody st) t ∧ t { nx := fun _ H' => Q .non H', rt := Q } (start N vs) H) : FnOk P w K mg base CX0 (k + 1) f fd ps sp := by
  obtain ⟨oc, od, kV, doc, pm, an, cdv, ct, osl, rfl, lk, hcd⟩ := F.ex
  refine fn_of lk hcd S len fun A outer s H vs Q E hr hsp => ?_
  obtain ⟨t, h, q⟩ := hbody cdv A outer s H vs Q E hr hsp
  exact ⟨t, h.nox, q⟩
theorem Fun.binds {x qual : Str} {st : Stmt} {f : Addr} {fd : FuncData} {ps : List Str} (F : Fun K x qual st f fd)
    (h : ∀ (kV doc pm : Value) (an : Option Addr) (cdv ct : Value) (us : List Value), us.length = ps.length → bindArgs (PySem.W.fnOf x qual (defArgs st) (defBody st) (defScope st) .none kV doc pm an cdv ct) ⟨us, []⟩ = pure (ps.zip us)) : Binds K fd ps [] := by
  obtain ⟨oc, od, kV, doc, pm, an, cdv, ct, osl, rfl, lk, hcd⟩ := F.ex
  exact .all (h kV doc pm an cdv ct)
theorem fun_mk {x qual : Str} {st : Stmt} {f : Addr} {oc : Value} {od an : Option Addr} {osl : Array (Option Value)} {kV doc pm cdv ct : Value} (l : K.lookup f = some ⟨oc, od, .func (PySem.W.fnOf x qual (defArgs st) (defBody st) (defScope st) .none kV doc pm an cdv ct), osl⟩)
    (c : PySem.W.codeIn K cdv qual = true) (k : PySem.W.keepIn K (.ref f) = true) : Fun K x qual st f (PySem.W.fnOf x qual (defArgs st) (defBody st) (defScope st) .none kV doc pm an cdv ct) := ⟨⟨oc, od, kV, doc, pm, an, cdv, ct, osl, rfl, l, c⟩, k⟩
end
theorem small1000 {n : Nat} (h : n ≤ 1000) : n < sizeLine := Nat.lt_of_le_of_lt h (by decide)
section
variable {X : Cx}
theorem pv (i : Nat) {x : Str} {pos : Pos} (hN : X.N[i]? = some x := by rfl) (hv : Vis X.env.scope x := by first | exact Or.inl rfl | exact Or.inr (Or.inl rfl) | exact Or.inr (Or.inr rfl)) (hd : (x == ("__debug__" : Str)) = false := by decide)
    (hcd : (x == ("__classdict__" : Str)) = false := by decide) : PE X (.Name x pos) (tVar i) := pe_var hN hv hd hcd
end
theorem ite2 {c A B : Prop} [Decidable c] (h1 : c → A) (h2 : ¬ c → B) : if c then A else B := by
  by_cases h : c
  · rw [if_pos h]
    exact h1 h
  · rw [if_neg h]
    exact h2 h
noncomputable def Same (H H' : Hp) : Prop := ∀ b o, H b = some o → H' b = some o
theorem Same.refl (H : Hp) : Same H H := fun _ _ h => h
theorem Same.trans {H H1 H2 : Hp} (a : Same H H1) (b : Same H1 H2) : Same H H2 := fun c o h => b c o (a c o h)
theorem Same.free {H H' : Hp} (e : Same H H') {l : Addr} (h : H' l = Option.none) : H l = Option.none := by
  cases q : H l with
  | none => rfl
  | some o =>
    rw [e l o q] at h
    cases h
theorem Same.seq {K : PySem.W.Frag} {H H' : Hp} {a : Addr} {xs : List V} (e : Same H H') (h : SqL K H a xs) : SqL K H' a xs := by
  rcases h with (h | ⟨o, h⟩) | h
  · exact .inl (.inl (e _ _ h))
  · exact .inl (.inr ⟨o, e _ _ h⟩)
  · exact .inr h
end L2
set_option maxHeartbeats 4000000
namespace Lx
open PySem PySem.Spec PyProof.Rows L2
noncomputable def ExcAt (h₀ h : Heap) (H : Hp) (x : Addr) (C : Value) : Prop :=
  ∃ oe vs, h.get? x = some oe ∧ oe.cls = C ∧ oe.data = .fields vs ∧ H x = none ∧ h₀.get? x = none ∧
    (vs[1]? = some Value.none ∨ ∃ T oT ts, vs[1]? = some (Value.ref T) ∧ T ≠ x ∧ h.get? T = some oT ∧ oT.data = .fields ts ∧ ts[3]? = some Value.none ∧ H T = none ∧ h₀.get? T = none)
theorem ExcAt.older {h₀ h₁ h : Heap} {H : Hp} {x : Addr} {C : Value} (e : ExcAt h₁ h H x C) (k : ∀ b, h₁.get? b = none → h₀.get? b = none) : ExcAt h₀ h H x C := by
  obtain ⟨oe, vs, h1, h2, h3, h4, h5, h6⟩ := e
  refine ⟨oe, vs, h1, h2, h3, h4, k _ h5, ?_⟩
  rcases h6 with h6 | ⟨T, oT, ts, g1, g2, g3, g4, g5, g6, g7⟩
  · exact .inl h6
  · exact .inr ⟨T, oT, ts, g1, g2, g3, g4, g5, g6, k _ g7⟩
theorem obj_get {P : Program} {w : World} {H : Hp} {h : Heap} {a : Addr} {o : HO} (x : ObjOk P w H h a o) : ∃ u, h.get? a = some u := by
  cases o with
  | lst xs => obtain ⟨_, _, _, _, e⟩ := x; exact ⟨_, e⟩
  | tup xs => obtain ⟨_, _, _, p⟩ := x; obtain ⟨o, h1, _⟩ := p; exact ⟨o, h1⟩
  | dK kvs => obtain ⟨_, _, _, _, o, _, _, e, _⟩ := x; exact ⟨_, e⟩
  | dT kvs => obtain ⟨_, _, _, _, o, _, _, e, _⟩ := x; exact ⟨_, e⟩
  | set S n => obtain ⟨o, _, _, _, e, _⟩ := x; exact ⟨_, e⟩
  | ins C dx fs => obtain ⟨_, _, _, e, _⟩ := x; exact ⟨_, e⟩
  | own y => exact x
  | xd fs => obtain ⟨_, ⟨_, _, _, e, _⟩, _⟩ := x; exact ⟨_, e⟩
  | rng lo hi => obtain ⟨_, _, _, e⟩ := x; exact ⟨_, e⟩
  | frz ob u => obtain ⟨e, _⟩ := x; exact ⟨_, e⟩
  | tbl ps => exact ⟨_, (show h.get? a = some _ from x)⟩
  | met f y => exact ⟨_, (show h.get? a = some _ from x)⟩
  | ext φ => obtain ⟨_, e, _⟩ := x; exact e
theorem mem_frs {env : Env} {l : List Env} {a : Addr} (h : env ∈ l) (hf : env.frame = some a) : a ∈ frs l := List.mem_filterMap.mpr ⟨env, h, hf⟩
theorem noted_any {M : Model} {A : Around} {E : Value → Shared → Prop} {s : Shared} {base h₀ : Heap} {env : Env} {outer : List Env} {L x : Addr} {C : Value} {H : Hp} {Q : Unit → Shared → Prop}
    (hfr : A.frames = some (env :: outer)) (hl : s.heap.FunFrames base (env :: outer)) (hf : env.frame = some L) (hx : ExcAt h₀ s.heap H x C)
    (h0 : ∀ b o, h₀.get? b = some o → ∃ u, s.heap.get? b = some u) (hH : ∀ b o, H b = some o → ∃ u, s.heap.get? b = some u)
    (h : ∀ h', (∀ b o, s.heap.get? b = some o → (h₀.get? b ≠ none ∨ H b ≠ none) → b ∉ frs (env :: outer) → h'.get? b = some o) →
      (∀ b o, s.heap.get? b = some o → b ∈ frs (env :: outer) → ∃ sl, h'.get? b = some { o with slots := sl }) →
      ExcAt h₀ h' H x C → Q () { s with heap := h' }) :
    wpAny M A (noteFrame (.ref x) env) (fun _ s2 => wpAny M A (setFlight (.ref x) none) Q E s2) E s := by
  obtain ⟨oe, vs, he, hc, hd, hHx, h0x, htr⟩ := hx
  have go : ∀ (tr : List Addr) (hxt : x ∈ tr) (htr : ∀ b ∈ tr, H b = none ∧ h₀.get? b = none) (h' : Heap), Heap.Left (PySem.W.hideAll s.heap (tr ++ frs (env :: outer))) (env :: outer) x C s.heap h' → Q () { s with heap := h' } := by
    intro tr hxt htr h' hL
    obtain ⟨k1, k2, k3, k4⟩ := hL
    have kept : ∀ b o, s.heap.get? b = some o → (h₀.get? b ≠ none ∨ H b ≠ none) → b ∉ frs (env :: outer) → h'.get? b = some o := fun b o e hb hn => by
      refine k1 b o (PySem.W.hideAll_get _ e fun hm => ?_)
      rcases List.mem_append.mp hm with z | z
      · obtain ⟨z1, z2⟩ := htr b z
        rcases hb with q | q
        · exact q z2
        · exact q z1
      · exact hn z
    refine h h' kept (fun b o e hb => ?_) ?_
    · obtain ⟨_, o', e', nf⟩ := hl.mem hb
      rw [e] at e'; cases e'
      exact k4 b o e nf
    · obtain ⟨oe', vs', T, oT, ts, he', hc', hd', h1', hnT, hTe, hT, hdT, h3⟩ := k3
      have hTn : H T = none ∧ h₀.get? T = none := by
        by_cases hm : T ∈ tr ++ frs (env :: outer)
        · rcases List.mem_append.mp hm with z | z
          · exact htr T z
          · obtain ⟨_, o', e', nf⟩ := k2.mem z
            rw [hT] at e'; cases e'
            exact absurd hdT (nf ts)
        · have no : s.heap.get? T = none := by
            cases q : s.heap.get? T with
            | none => rfl
            | some o =>
              rw [PySem.W.hideAll_get _ q hm] at hnT; cases hnT
          refine ⟨?_, ?_⟩
          · cases q : H T with
            | none => rfl
            | some o =>
              obtain ⟨u, hu⟩ := hH T o q
              rw [no] at hu; cases hu
          · cases q : h₀.get? T with
            | none => rfl
            | some o =>
              obtain ⟨u, hu⟩ := h0 T o q
              rw [no] at hu; cases hu
      exact ⟨oe', vs', he', hc', hd', hHx, h0x, .inr ⟨T, oT, ts, h1', hTe, hT, hdT, h3, hTn.1, hTn.2⟩⟩
  have ff : ∀ tr : List Addr, s.heap.FunFrames (PySem.W.hideAll s.heap (tr ++ frs (env :: outer))) (env :: outer) := fun tr => PySem.W.funFrames_hide hl fun env' h1 a h2 => List.mem_append_right _ (mem_frs h1 h2)
  have stays : ∀ tr : List Addr, (PySem.W.hideAll s.heap (tr ++ frs (env :: outer))).StaysIn s.heap := fun tr b o q => PySem.W.of_hideAll _ q
  have hid : ∀ (tr : List Addr) (b : Addr), b ∈ tr → (PySem.W.hideAll s.heap (tr ++ frs (env :: outer))).get? b = none := fun tr b hb => PySem.W.hideAll_none _ (List.mem_append_left _ hb)
  rcases htr with h1 | ⟨Tr, oTr, tv, h1, hTx, hTr, hdTr, h3, hHT, h0T⟩
  · unfold noteFrame
    simp only [hf]
    refine wpAny_bind (wpAny_field (s := s) he hd h1 ?_)
    rw [if_neg (by decide : ¬ ((Value.none != Value.none) = true))]
    refine wpAny_newEntry hfr (ff [x]) hf he (stays [x]) (hid [x] x (by simp)) hd (Array.getElem?_eq_some_iff.mp h1).1 fun h' hL => go [x] (by simp) (fun b hb => ?_) h' (by rw [← hc]; exact hL)
    have e : b = x := by simpa using hb
    subst e
    exact ⟨hHx, h0x⟩
  · unfold noteFrame
    simp only [hf]
    refine wpAny_bind (wpAny_field (s := s) he hd h1 ?_)
    rw [if_pos (by simp : (Value.ref Tr != Value.none) = true)]
    refine wpAny_bind (wpAny_field (s := s) hTr hdTr h3 ?_)
    rw [if_neg (by simp [rawInt] : ¬ ((Value.none == rawInt L) = true))]
    refine wpAny_bind (wpAny_setField (s := s) hTr hdTr (Array.getElem?_eq_some_iff.mp h3).1 ?_)
    have oth : ∀ b, b ≠ Tr → (s.heap.update Tr (Obj.mapFields (·.setIfInBounds 3 Value.none))).get? b = s.heap.get? b := fun b nb => Heap.get?_update_other _ _ (Ne.symm nb)
    have nT : ∀ b u, s.heap.get? b = some u → (∀ vs, u.data ≠ .fields vs) → b ≠ Tr := fun b u q nf z => by
      rw [z, hTr] at q
      cases q
      exact nf tv hdTr
    refine wpAny_newEntry hfr ((ff [x, Tr]).of_keeps fun b u q nf => ⟨u, (oth b (nT b u q nf)).trans q, rfl⟩) hf ((oth x (Ne.symm hTx)).trans he) (fun b u q => (oth b fun z => ?_).trans (stays [x, Tr] b u q)) (hid [x, Tr] x (by simp)) hd (Array.getElem?_eq_some_iff.mp h1).1
      fun h' hL => go [x, Tr] (by simp) (fun b hb => ?_) h' ⟨hL.1, hL.2.1, by rw [← hc]; exact hL.2.2.1, fun b u q nf => hL.2.2.2 b u ((oth b (nT b u q nf)).trans q) nf⟩
    · rw [z, hid [x, Tr] Tr (by simp)] at q
      cases q
    · have e : b = x ∨ b = Tr := by simpa using hb
      rcases e with e | e
      · subst e; exact ⟨hHx, h0x⟩
      · subst e; exact ⟨hHT, h0T⟩
theorem leaving_any {M : Model} {A : Around} {E : Value → Shared → Prop} {s : Shared} {base h₀ : Heap} {env : Env} {outer : List Env} {L x : Addr} {C : Value} {H : Hp} {Q : Unit → Shared → Prop}
    (hfr : A.frames = some (env :: outer)) (hl : s.heap.FunFrames base (env :: outer)) (hf : env.frame = some L) (hx : ExcAt h₀ s.heap H x C)
    (h0 : ∀ b o, h₀.get? b = some o → ∃ u, s.heap.get? b = some u) (hH : ∀ b o, H b = some o → ∃ u, s.heap.get? b = some u)
    (h : ∀ h', (∀ b o, s.heap.get? b = some o → (h₀.get? b ≠ none ∨ H b ≠ none) → b ∉ frs (env :: outer) → h'.get? b = some o) →
      (∀ b o, s.heap.get? b = some o → b ∈ frs (env :: outer) → ∃ sl, h'.get? b = some { o with slots := sl }) →
      ExcAt h₀ h' H x C → Q () { s with heap := h' }) :
    wpAny M A (leaving env (.ref x)) Q E s := wpAny_bind (noted_any hfr hl hf hx h0 hH h)
noncomputable def CXE (P : Program) (w : World) : CXT := fun outer H s E e s' =>
  ∃ (x : Addr) (C : Value) (H' : Hp), e = .ref x ∧ s'.os = s.os ∧ AllBare s'.gens ∧ Un (frs outer) [] H H' s.heap s'.heap ∧ HOk P w H' s'.heap ∧ ExcAt s.heap s'.heap H' x C ∧ E C none H'
theorem passE0 {P : Program} {w : World} {X : Cx} : Passes (CXE P w) X E0 := fun _ _ _ _ _ _ _ ⟨_, _, _, _, _, _, _, _, _, h⟩ => h.elim
section
variable {P : Program} {w : World} {K : PySem.W.Frag} {mg : Str → Option Value} {base : Heap}
theorem left_ok {X : Cx} {pins : List (Addr × Obj)} {σ : L2.St} {H' : Hp} {s' : Shared} {h' h₁ : Heap} (I' : Inv X pins σ H' s')
    (k : ∀ b o, s'.heap.get? b = some o → (h₁.get? b ≠ none ∨ H' b ≠ none) → b ∉ frs X.stack → h'.get? b = some o) : HOk X.prog X.w H' h' := fun a o e =>
  (I'.hok a o e).stay (fun b u hb q => by
    have t : H' b ≠ none := by
      rcases hb with z | z
      · rw [z, e]; simp
      · rw [z]; simp
    exact k b u q (.inr t) fun hm => t (I'.stkFree b hm)) (fun _ q => q) fun _ _ q => q
theorem pass_own {N : List Str} {qual : Str} {scope : Scope} {f : Addr} {cdv : Value} {A : Around} {outer : List Env} {s₀ : Shared} {H₀ : Hp} {E : XK} :
    Passes (CXE P w) (cxOf (CXE P w) P w K mg base N qual scope f cdv A outer s₀ H₀ E) E := by
  intro pins σ H s e s' I hc
  obtain ⟨x, C, H', rfl, ho, hg, u, hok, hx, hE⟩ := hc
  have I' : Inv (cxOf (CXE P w) P w K mg base N qual scope f cdv A outer s₀ H₀ E) pins σ H' s' := I.call' ho u hok hg (fun b z => absurd z (by simp))
  have there : ∀ b o, s₀.heap.get? b = some o → ∃ o', s.heap.get? b = some o' := fun b o e => I.base.there b o e (by intro z; exact absurd (show b ∈ ([] : List Addr) from z) (by simp))
  show wpAny (model P w) _ (leaving _ (.ref x)) _ _ s'
  refine leaving_any (h₀ := s.heap) (H := H') (C := C) (base := base) I'.ok.frames I'.stack rfl hx (fun b o e => u.there b o e (by simp)) (fun b o e => obj_get (hok b o e)) fun h' kp sl hx' => ?_
  have noex : ∀ b : Addr, b ∉ (cxOf (CXE P w) P w K mg base N qual scope f cdv A outer s₀ H₀ E).ex := fun b z => absurd (show b ∈ ([] : List Addr) from z) (by simp)
  have neL : ∀ b o, s₀.heap.get? b = some o → b ∉ frs outer → b ∉ frs (envOfC qual scope s₀.heap.objs.size f cdv :: outer) := fun b o e hb hm => by
    rcases List.mem_cons.mp (I'.stkSub b hm) with z | z
    · exact absurd (z ▸ Heap.lt_size e) (Nat.not_lt.mpr I'.ok.above)
    · exact hb z
  refine ⟨x, C, H', rfl, I'.os, I'.bare, ⟨fun b o e n hb _ => ?_, fun b o e n hb _ => ?_, fun b o e n _ => I'.base.free b o e n (noex b), fun b o e _ => ?_, I'.base.tups, I'.base.frzs, I'.base.tbls⟩, left_ok I' kp, hx'.older (fun b q => ?_), hE⟩
  · obtain ⟨o', e'⟩ := there b o e
    exact kp b o (I'.base.keep b o e n hb (noex b)) (.inl (by rw [e']; simp)) (neL b o e hb)
  · obtain ⟨sl1, e1⟩ := I'.base.slot b o e n hb (noex b)
    obtain ⟨sl2, e2⟩ := sl b _ e1 (by
      obtain ⟨env, h1, h2⟩ := List.mem_filterMap.mp hb
      exact mem_frs (List.mem_cons_of_mem _ h1) h2)
    exact ⟨sl2, e2⟩
  · obtain ⟨o1, e1⟩ := I'.base.there b o e (noex b)
    by_cases hm : b ∈ frs (envOfC qual scope s₀.heap.objs.size f cdv :: outer)
    · obtain ⟨sl2, e2⟩ := sl b _ e1 hm
      exact ⟨_, e2⟩
    · obtain ⟨o', e'⟩ := there b o e
      exact ⟨_, kp b o1 e1 (.inl (by rw [e']; simp)) hm⟩
  · cases q2 : s₀.heap.get? b with
    | none => rfl
    | some o =>
      obtain ⟨o', e'⟩ := there b o q2
      rw [q] at e'; cases e'
theorem okE {x qual : Str} {st : Stmt} {f : Addr} {fd : FuncData} {N ps : List Str} {k : Nat} {sp : Sp} (F : Fun K x qual st f fd) (S : FnScope N ps (defScope st)) (len : ∀ vs H Q E, sp vs H Q E → vs.length = ps.length)
    (hbody : ∀ (cdv : Value) (A : Around) (outer : List Env) (s : Shared) (H : Hp) (vs : List V) (Q : VK) (E : XK), Room k (A.deeper (envOfC qual (defScope st) s.heap.objs.size f cdv)) → sp vs H Q E →
      ∃ t, PSs (cxOf (CXE P w) P w K mg base N qual (defScope st) f cdv A outer s H E) (defBody st) t ∧ t { nx := fun _ H' => Q .non H', rt := Q } (start N vs) H) : FnOk P w K mg base (CXE P w) (k + 1) f fd ps sp := by
  obtain ⟨oc, od, kV, doc, pm, an, cdv, ct, osl, rfl, lk, hcd⟩ := F.ex
  exact fn_of lk hcd S len fun A outer s H vs Q E hr hsp => hbody cdv A outer s H vs Q E hr hsp
end
end Lx
namespace Lx
open PySem PySem.Spec PyProof.Rows L2
noncomputable abbrev vMro : List Value := [.type "ValueError", .type "Exception", .type "BaseException", .type "object"]
theorem own_obj {K : PySem.W.Frag} {h : Heap} {C : Addr} {bmB : List Value} {newId : String} (KI : K.In h) (q : PySem.W.excIn K C bmB newId = true) :
    ∃ bm N nm qn bs hdct sn sub ab col dd k0 k1 k2 k3 k5 mN, h.get? C = some (excClassObj nm qn C N bs bm hdct sn sub ab col dd k0 k1 k2 k3 k5 newId) ∧ h.Ns N mN ∧ mN "__init__" = none ∧ OwnTail h bmB bm := by
  unfold PySem.W.excIn at q
  split at q
  · rename_i dct cdat slts hlook
    split at q
    · rename_i Cx bmx s0 s1 s2 s3 nw s5 hmr hsl
      simp only [Bool.and_eq_true, beq_iff_eq, Bool.not_eq_true'] at q
      obtain ⟨⟨⟨⟨⟨q1, q2⟩, q3⟩, q4⟩, q5⟩, q6⟩ := q
      subst q1; subst q2
      obtain ⟨f1, f2, f3, f4, f5, f6, f7, f8, f9, f10, f11⟩ := cdat
      dsimp only at hmr q3 q5 q6
      subst hmr; subst q3
      obtain ⟨sl⟩ := slts
      dsimp only at hsl
      subst hsl
      exact ⟨bmx, f4, f1, f5, f2, f6, f7, f8, f9, f10, dct, s0, s1, s2, s3, s5, _, KI _ _ hlook, .of_isNs (PySem.W.isNs_of_in KI q5), PySem.W.nsMap_none_of_in KI q5 q6, PySem.W.tail_of_in KI q4⟩
    · cases q
  · cases q
structure ExcCl (K : PySem.W.Frag) (mg : Str → Option Value) (x : Str) (C : Addr) : Prop where
  ex : PySem.W.excIn K C vMro "ValueError.__new__" = true
  mgx : mg x = some (.ref C)
noncomputable def tRaise (E : XK) (C : Addr) (t : TA) : TS := fun _ σ H => t σ H fun vs H1 => vs.length ≤ sizeLine ∧ E (.ref C) none H1
section
variable {X : Cx} {P : Program} {w : World} {E : XK} {x : Str} {C : Addr} {np cpos pos : Pos} {e : Expr} {es : List Expr} {t : TA}
theorem ps_raise (O : ExcCl X.K X.mg x C) (hh : X.A.handled = none) (hx : Passes (CXE X.prog X.w) X E) (hg : Gl X x) (ha : PA X (e :: es) t) (hd : (x == ("__debug__" : Str)) = false := by decide)
    (he : starEach (e :: es) X.env = (false, eval e X.env) :: starEach es X.env := by rfl) (hpl : (backTo cpos (starEach es X.env)).any (·.1) = false := by rfl) :
    PS X (.Raise (some (.Call (.Name x np) (e :: es) [] cpos)) none pos) (tRaise E C t) := by
  intro pins s σ H D I h
  obtain ⟨bm, N, nm, qn, bs, hdct, sn, sub, ab, col, dd, k0, k1, k2, k3, k5, mN, hC, hN, hni, T⟩ := own_obj I.ok.mod.kin O.ex
  refine wpAny_Raise_call_subU (C := C) (nm := nm) (q := qn) (N := N) (bs := bs) (bm := bm) (hdct := hdct) (sn := sn) (sub := sub) (ab := ab) (col := col) (dd := dd) (k0 := k0) (k1 := k1) (k2 := k2) (k3 := k3) (k5 := k5)
    PySem.F.excBase_ValueError (by decide +kernel) PySem.F.excBase_ValueError (mN := mN) (T.hasType PySem.F.excBase_ValueError.hasBase) hh (by rw [he]; show (false || (backTo cpos (starEach es X.env)).any (·.1)) = false; rw [hpl]; rfl) hni (ld_glob I hg O.mgx ⟨rfl, ?_⟩ hd)
  have ha1 := thn (ha cpos pins s σ H _ I h) (Q' := fun vs s₂ => vs.length ≤ sizeLine ∧ (∀ b o, X.base.get? b = some o → s₂.heap.get? b = some o) ∧ ∀ h' e, Heap.MadeExcOf s₂.heap h' e (.ref C) vs → X.xe (.ref e) { s₂ with heap := h' }) (fun us s2 ⟨vs, H1, I1, r, z, q⟩ => ⟨by rw [← r.length]; exact z, I1.bk, fun h' e M => ?_⟩)
  · rw [he] at ha1 ⊢
    exact Calls.evalArgs_plain (wpAny_mono ha1 (fun vs s₂ h₂ => ⟨rfl, h₂.1, h₂.2.1 _ _ hC, hN.keeps h₂.2.1, T.keeps h₂.2.1, h₂.2.2⟩) fun _ _ y => y)
  · refine hx pins σ H1 s2 (.ref e) _ I1 ⟨e, .ref C, H1, rfl, rfl, I1.bare, Un.kept M.keeps, I1.hok.kept M.keeps, ?_, q⟩
    obtain ⟨tt, t1, t2, t3⟩ := M.there
    refine ⟨_, _, t1, rfl, rfl, ?_, M.new, .inl rfl⟩
    cases z : H1 e with
    | none => rfl
    | some o =>
      obtain ⟨u, hu⟩ := obj_get (I1.hok e o z)
      rw [M.new] at hu; cases hu
end
noncomputable abbrev XS := L2.St → XK
noncomputable abbrev TSX := Ends → XS → L2.St → Hp → Prop
section
variable {X : Cx} {st : Stmt} {rest : List Stmt} {t u : TSX} {pos : Pos}
variable {k : Nat} {f : Addr} {fd : FuncData} {ps : List Str} {sp : Sp} {x : Str} {p : Pos} {e : Expr} {es : List Expr} {ta : TA}
end
end Lx
namespace Lx
open PySem PySem.Spec PyProof.Rows L2
section
variable {X : Cx} {pins : List (Addr × Obj)} {σ : L2.St} {H : Hp} {s : Shared} {x : Addr}
structure Old (X : Cx) (pins : List (Addr × Obj)) (h₁ : Heap) : Prop where
  s0 : ∀ b o, X.s₀.heap.get? b = some o → b ∉ X.ex → ∃ u, h₁.get? b = some u
  lo : ∃ u, h₁.get? X.env.locals = some u
  pn : ∀ p ∈ X.pn ++ pins, ∃ u, h₁.get? p.1 = some u
  ce : ∀ x c, X.env.cells.lookup x = some c → ∃ u, h₁.get? c = some u
end
section
variable {X : Cx}
end
end Lx
namespace Lx
open PySem PySem.Spec PyProof.Rows L2
theorem bits_lt {i : Int} {n : Nat} (h : i.natAbs < 2 ^ n) : Builtin.Int.intBits i ≤ n := by
  unfold Builtin.Int.intBits
  split
  · exact Nat.zero_le _
  · rcases Nat.eq_zero_or_pos i.natAbs with h0 | hp
    · rename_i hne
      exact absurd (Int.natAbs_eq_zero.mp h0) (by simpa using hne)
    · have := (Nat.log2_lt (Nat.ne_of_gt hp)).mpr h
      omega
noncomputable def Wee (i : Int) : Prop := i.natAbs < 2 ^ 8000
theorem Wee.bits {i : Int} (h : Wee i) : Builtin.Int.intBits i ≤ 8000 := bits_lt h
theorem mulOk {i j : Int} (hi : Wee i) (hj : Wee j) : IntMulOk i j := IntMulOk.of_le hi.bits hj.bits (by decide)
theorem mulOkBig {i j : Int} (hi : Builtin.Int.intBits i ≤ 10000000) (hj : Wee j) : IntMulOk i j := IntMulOk.of_le hi hj.bits (by decide)
theorem wee_log {i : Int} (h : Wee i) : i.natAbs.log2 < 9000 := by
  rcases Nat.eq_zero_or_pos i.natAbs with h0 | hp
  · rw [h0]; decide
  · have := (Nat.log2_lt (Nat.ne_of_gt hp)).mpr h
    omega
noncomputable def CMulB (i j : Int) : Prop := IntMulOk i j
noncomputable def CDivB (i j : Int) : Prop := 0 < j ∧ Wee j
noncomputable def CDivW (i j : Int) : Prop := j ≠ 0 ∧ Wee j
section
variable {X : Cx}
theorem op_mulB : OpR X (binaryOp .Mult) (rI CMulB fun i j => .int (i * j)) := opI fun _ _ _ _ _ _ _ hc q => mul_int q hc
theorem op_fdivW : OpR X (binaryOp .FloorDiv) (rI CDivW fun i j => .int (i.fdiv j)) := opI fun _ _ _ _ _ _ _ hc q => floordiv_int hc.1 q (.inl (PyProof.noPylong_of_log2 (wee_log hc.2)))
theorem op_fdivB : OpR X (binaryOp .FloorDiv) (rI CDivB fun i j => .int (i / j)) := opI fun i j _ _ _ _ _ hc q => by
  have h0 : (0 : Int) < j := hc.1
  refine floordiv_int (Int.ne_of_gt h0) ?_ (.inl (PyProof.noPylong_of_log2 (wee_log hc.2)))
  rw [Int.fdiv_eq_ediv_of_nonneg _ (Int.le_of_lt h0)]
  exact q
end
theorem bits_of_lay {ns : List Int} (h : PySem.W.WData.layableAll [PySem.W.WData.list (ns.map PySem.W.WData.int)] = true) : ∀ v ∈ ns, Builtin.Int.intBits v ≤ 1048576 := fun v hv => by
  have h1 := PySem.W.layableW_arg h _ (List.mem_singleton.mpr rfl)
  have h2 := PySem.W.layableW_item h1 (PySem.W.WData.int v) (List.mem_map.mpr ⟨v, hv, rfl⟩)
  obtain ⟨_, _, h3⟩ := PySem.W.layableW_iff.mp h2
  have e : (2 : Nat) ^ 20 = 1048576 := by decide
  rw [e] at h3
  simpa only [PySem.W.WData.weight, Builtin.Int.intBits] using h3
end Lx
namespace Att
open PySem PySem.W PySem.Calls PyProof.Rows
theorem attachB {l : OpenLaw} {n : Nat} {q : Program} {loose : List Str} {XP : (Str → Option Value) → Heap → Prop} {YP : World → Heap → Prop} {d : DefRec}
    (hn : l.most = some n) (hdf : d.params.defaults = [])
    (call : ∀ (w : World) (s₀ s₁ : Shared) (mg mb : Str → Option Value) (fa : Addr) (o : Obj) (pm cd doc : Value) (a : Addr) (vs : List Value) (ns : List Int),
      Ground q loose [] XP w s₀ mg mb s₁.heap → YP w s₁.heap →
      s₁.heap.get? fa = some o → o.data = .func (docDef d.name d.params d.body d.scope pm cd doc) → s₁.heap.CodeRec cd d.name → mg d.name = some (.ref fa) →
      s₁.heap.get? a = some { cls := .type "list", data := .seq vs.toArray } → IntsAre vs ns → ns.length ≤ n → (∀ v ∈ ns, Builtin.Int.intBits v ≤ 1048576) → s₁.gens = #[] →
      codeAny (model l.prog w) callerA (.call (.ref fa) ⟨[.ref a], []⟩) (fun r s' => r = .ok (.ret (.bool true)) ∧ OldK s₁.heap s'.heap ∧ s'.os = s₁.os ∧ AllBare s'.gens) s₁) :
    WalkO q loose XP YP l.row.toRowW d [] (fun f vs => PySem.call f vs) := by
  intro w s₀ s₁ mg mb G Y fa o pm cd doc dV kV ho hd hcd hD hmg hg args vals as hpre hlay hrd hwl hlo
  obtain rfl : dV = .none := Dflts.none hD hdf
  obtain rfl : kV = .none := Dflts.noKw hD
  obtain ⟨a, vs, ns, rfl, rfl, hobj, hints, hlen⟩ := script_of hn hpre hwl
  refine enter_call (codeAny_mono (call w s₀ s₁ mg mb fa o pm cd doc a vs ns G Y ho (fd_plain hd) hcd hmg hobj hints hlen (Lx.bits_of_lay hlay) hg) fun r s' hq => ?_)
  obtain ⟨rfl, h2, h3, h4⟩ := hq
  exact ⟨.inl ⟨.bool true, .bool true, [], rfl, fun _ => rfl, .bool true, post_true l _, fun _ => ⟨List.Pairwise.nil, fun _ hm => (nomatch hm)⟩⟩, h2, h3, h4⟩
end Att
namespace Lx
open PySem PySem.Spec PyProof.Rows L2
noncomputable def spLaw (K : PySem.W.Frag) : Sp := fun vs H Q _ => ∃ (a : Addr) (ns : List Int), vs = [.ref a] ∧ SqL K H a (ns.map V.int) ∧ ns.length ≤ 63 ∧ (∀ v ∈ ns, Builtin.Int.intBits v ≤ 1048576) ∧ Only H ∧ ∀ H', Q (.bl true) H'
theorem walkB {l : PySem.W.OpenLaw} {k : Nat} {q : Program} {loose : List Str} {XP : (Str → Option Value) → Heap → Prop} {YP : World → Heap → Prop} {d : DefRec} {K : Params → PySem.W.Frag}
    (hn : l.most = some 63) (hdf : d.params.defaults = []) (hr : Room k callerA)
    (hY : ∀ (w : World) (h : Heap), YP w h → (K w.params).In h)
    (F : ∀ (w : World) (mg : Str → Option Value) (fa : Addr) (h : Heap), (K w.params).In h → h.Ns mainGlobals mg → mg d.name = some (.ref fa) →
      ∃ fd : FuncData, (∀ (s : Shared) (u : Value), BindsTo s fd ⟨[u], []⟩ [("script", u)]) ∧
        ∀ base : Heap, (K w.params).In base → base.Ns mainGlobals mg → FnOk l.prog w (K w.params) mg base (CXE l.prog w) k fa fd ["script"] (spLaw (K w.params))) :
    PySem.W.WalkO q loose XP YP l.row.toRowW d [] (fun f vs => PySem.call f vs) := by
  refine Att.attachB hn hdf fun w s₀ s₁ mg mb fa o pm cd doc a vs ns G Y ho hd hcd hmg hobj hints hlen hbits hg => ?_
  have KX := hY w _ Y
  obtain ⟨fd, hb, hF⟩ := F w mg fa _ KX G.T.g hmg
  exact law_call KX G.T.g G.T.b G.T.builtins G.T.nolimit hg hobj hints (Nat.le_trans hlen (by decide)) hr hF hb (fun H hO hS => ⟨a, ns, rfl, hS, hlen, hbits, hO, fun _ => rfl⟩) fun H e s' ⟨_, _, _, _, _, _, _, _, _, h⟩ => h
end Lx
namespace Lx
open PySem PySem.Spec PyProof.Rows L2
section
variable {X : Cx} {tg : Expr}
end
end Lx
namespace Lx
open PySem PySem.Spec PyProof.Rows L2
section
variable {prog : Program} {w : World} {A : Around} {R : Result → Shared → Prop} {s : Shared}
theorem lc_loop {elt target iter : Expr} {ifs : List Expr} {scope : Scope} {pos : Pos} {it acc : Value} {cenv : Env} (J : Nat → Shared → Prop)
    (turn : ∀ n s, J n s → ∀ E' : Value → Shared → Prop, wpAny (model prog w) A (pyNext it) (fun r sa => match r with
      | none => R (.ok .next) sa
      | some v => wpAny (model prog w) A (letOwnedTupleGo target it v) (fun _ sb => wpAny (model prog w) A (assign target cenv v) (fun _ sc =>
          wpAny (model prog w) A (forIn ifs true fun c r => if r = true then do let ok ← isTrue c cenv (eval c cenv); pure (ForInStep.yield ok) else pure (ForInStep.yield r)) (fun ok sd =>
            if ok = true then wpAny (model prog w) A (eval elt cenv) (fun x se =>
              wpAny (model prog w) A (call (.builtin "list.append") [acc, x]) (fun _ sf => ∃ m, m < n ∧ J m sf) E' se) E' sd
            else ∃ m, m < n ∧ J m sd) E' sc) E' sb) E' sa) E' s)
    (n : Nat) (h : J n s) : codeAny (model prog w) A (.compLoop (.ListComp elt [⟨target, iter, ifs, 0⟩] scope pos) 0 it acc cenv) R s := by
  refine codeAny_loop rfl J (fun k sk hJ => ?_) n h
  show wpAny _ A ((compTurn (.ListComp elt [⟨target, iter, ifs, 0⟩] scope pos) 0 it acc cenv).onRaise (fun y => do noteFrame y cenv; theTreesLotGoes y)) _ _ sk
  refine wpAny_noted ?_
  rw [compTurn_list]
  refine wpAny_bind (wpAny_standAt (wpAny_bind (wpAny_mono (turn k sk hJ _) (fun r sa ha => ?_) fun _ _ z => z)))
  cases r with
  | none => exact wpAny_pure ha
  | some v =>
    refine wpAny_bind (wpAny_mono ha (fun _ sb hb => wpAny_bind (wpAny_mono hb (fun _ sc hc => wpAny_bind (wpAny_mono hc (fun ok sd hd => ?_) fun _ _ z => z)) fun _ _ z => z)) fun _ _ z => z)
    cases ok with
    | false => exact wpAny_pure ⟨rfl, hd⟩
    | true => exact wpAny_bind (wpAny_bind (wpAny_mono hd (fun x se he => wpAny_bind (wpAny_mono he (fun _ sf hf => wpAny_pure (wpAny_pure ⟨rfl, hf⟩)) fun _ _ z => z)) fun _ _ z => z))
end
noncomputable def lcCx (X : Cx) (scope : Scope) (cl : List (Str × Addr)) (NC : List Str) (C : Addr) (s₀ : Shared) (H₀ : Hp) (fp : List Addr) : Cx where
  prog := X.prog
  w := X.w
  K := X.K
  mg := X.mg
  base := X.base
  A := X.A
  N := NC
  s₀ := s₀
  H₀ := H₀
  env := compEnvC scope cl C X.env
  outer := X.stack
  stack := X.stack
  ex := fp
  fn := fun _ => false
  calm := X.calm
  pn := []
  xe := fun _ _ => False
noncomputable def CapsOk (X : Cx) (scope : Scope) (cl : List (Str × Addr)) : List (Option Nat) → List Str → Prop
  | [], [] => True
  | none :: cs, _ :: ns => CapsOk X scope cl cs ns
  | some i :: cs, y :: ns => (∃ c, X.N[i]? = some y ∧ X.env.scope.names.lookup y = some .cell ∧ cl.lookup y = some c ∧ X.env.cells.lookup y = some c ∧ (relabel scope X.env).names.lookup y = some .cell) ∧ CapsOk X scope cl cs ns
  | _, _ => False
theorem CapsOk.at {X : Cx} {scope : Scope} {cl : List (Str × Addr)} : ∀ {cs : List (Option Nat)} {ns : List Str} {j i : Nat} {y : Str}, CapsOk X scope cl cs ns → cs[j]? = some (some i) → ns[j]? = some y →
    ∃ c, X.N[i]? = some y ∧ X.env.scope.names.lookup y = some .cell ∧ cl.lookup y = some c ∧ X.env.cells.lookup y = some c ∧ (relabel scope X.env).names.lookup y = some .cell
  | [], _, j, i, y, _, e, _ => by simp at e
  | none :: cs, [], _, _, _, h, _, _ => False.elim h
  | some _ :: cs, [], _, _, _, h, _, _ => False.elim h
  | none :: cs, _ :: ns, 0, i, y, h, e, _ => by simp at e
  | none :: cs, _ :: ns, j + 1, i, y, h, e, e' => CapsOk.at (cs := cs) (ns := ns) (j := j) h (by simpa using e) (by simpa using e')
  | some k :: cs, z :: ns, 0, i, y, h, e, e' => by
    have e1 : k = i := by simpa using e
    have e2 : z = y := by simpa using e'
    subst e1; subst e2
    exact h.1
  | some k :: cs, z :: ns, j + 1, i, y, h, e, e' => CapsOk.at (cs := cs) (ns := ns) (j := j) h.2 (by simpa using e) (by simpa using e')
theorem CapsOk.len {X : Cx} {scope : Scope} {cl : List (Str × Addr)} : ∀ {cs : List (Option Nat)} {ns : List Str}, CapsOk X scope cl cs ns → cs.length = ns.length
  | [], [], _ => rfl
  | [], _ :: _, h => False.elim h
  | none :: cs, [], h => False.elim h
  | some _ :: cs, [], h => False.elim h
  | none :: cs, _ :: ns, h => congrArg (· + 1) (CapsOk.len (cs := cs) (ns := ns) h)
  | some _ :: cs, _ :: ns, h => congrArg (· + 1) (CapsOk.len (cs := cs) (ns := ns) h.2)
noncomputable def capσ (cap : List (Option Nat)) (σ : L2.St) : L2.St := cap.map fun o => o.bind fun i => (σ[i]?).bind id
noncomputable def PTs (X : Cx) (ifs : List Expr) (t : TT) : Prop :=
  ∀ (pins : List (Addr × Obj)) (s : Shared) (σ : L2.St) (H : Hp) (Q : Bool → Hp → Prop), Inv X pins σ H s → t σ H Q →
    wpAny (model X.prog X.w) X.A (forIn ifs true fun c r => if r = true then do let ok ← isTrue c X.env (eval c X.env); pure (ForInStep.yield ok) else pure (ForInStep.yield r)) (TP X pins σ Q) X.xe s
noncomputable def tYes : TT := fun _ H Q => Q true H
theorem pts_nil {X : Cx} : PTs X [] tYes := fun _ _ _ H _ I h => wpAny_tests_nil ⟨H, I, h⟩
theorem pts_one {X : Cx} {c : Expr} {t : TT} (h : PT X c t) : PTs X [c] t := fun pins s σ H Q I q => wpAny_tests_one (h pins s σ H Q I q)
noncomputable def tLC (wi : TI) (cap : List (Option Nat)) (g : TG) (tt : TT) (te : TE) : TE := fun σ H Q => wi σ H fun J H1 => ∀ D, H1 D = none →
  ∃ W : Nat → Nat → L2.St → Hp → Prop, (∃ m, W 0 m (capσ cap σ) (upd H1 D (.lst []))) ∧ ∀ i m σc Hc, W i m σc Hc →
    (J.stop i Hc ∧ Q (.ref D) Hc) ∨ (J.go i Hc ∧ ∃ N : L2.St → Hp → Prop, (∀ σ' H', N σ' H' → ∃ m', m' < m ∧ W (i + 1) m' σ' H') ∧ ∀ x H', J.yld i Hc x H' → g x σc H' fun σ2 H2 => tt σ2 H2 fun b H3 =>
      if b = true then te σ2 H3 fun y H4 => ∃ ys, H4 D = some (.lst ys) ∧ ys.length < sizeLine ∧ N σ2 (upd H4 D (.lst (ys ++ [y]))) else N σ2 H3)
structure LcOk (X : Cx) (scope : Scope) (cl : List (Str × Addr)) (cap : List (Option Nat)) (NC : List Str) : Prop where
  clos : closureFor scope X.env = pure cl
  kind : scope.kind = .function
  nocell : ∀ x ∈ scope.names, x.2 ≠ .cell
  names : ∀ x ∈ scope.names, x.2 = .local → scope.names.lookup x.1 = some .local
  caps : CapsOk X scope cl cap NC
  cells : ∀ p ∈ cl, X.env.cells.lookup p.1 = some p.2
  has : ((relabel scope X.env).names.all fun p => (p.2 != .cell && p.2 != .free) || (cl.lookup p.1).isSome) = true
section
variable {X : Cx} {elt target iter : Expr} {ifs : List Expr} {scope : Scope} {pos : Pos} {wi : TI} {cap : List (Option Nat)} {NC : List Str} {cl : List (Str × Addr)} {g : TG} {tt : TT} {te : TE}
theorem lc_cells (L : LcOk X scope cl cap NC) {x : Str} {c : Addr} (h : cl.lookup x = some c) : X.env.cells.lookup x = some c := L.cells (x, c) (PySem.mem_of_lookup h)
theorem lc_block {pins : List (Addr × Obj)} {σ : L2.St} {s₂ : Shared} {H2 : Hp} {it : Addr} {fp : List Addr} {tn : Nat → Heap → Prop} {J : It} {Z : Value → Addr → Result → Shared → Prop} {G : V → Hp → Prop}
    (hc : X.calm = true) (L : LcOk X scope cl cap NC) (hg : ∀ C s₀ H₀ fp, PG (lcCx X scope cl NC C s₀ H₀ fp) target g) (ht : ∀ C s₀ H₀ fp, PTs (lcCx X scope cl NC C s₀ H₀ fp) ifs tt) (he : ∀ C s₀ H₀ fp, PE (lcCx X scope cl NC C s₀ H₀ fp) elt te)
    (I2 : Inv X pins σ H2 s₂) (T : Turn X.prog X.w X.K target J fp it tn) (st2 : tn 0 s₂.heap) (f2 : ∀ b ∈ fp, FpOk X pins H2 b)
    (hW : ∀ D, H2 D = none → ∃ W : Nat → Nat → L2.St → Hp → Prop, (∃ m, W 0 m (capσ cap σ) (upd H2 D (.lst []))) ∧ ∀ i m σc Hc, W i m σc Hc →
      (J.stop i Hc ∧ G (.ref D) Hc) ∨ (J.go i Hc ∧ ∃ N : L2.St → Hp → Prop, (∀ σ' H', N σ' H' → ∃ m', m' < m ∧ W (i + 1) m' σ' H') ∧ ∀ x H', J.yld i Hc x H' → g x σc H' fun σ2 H2 => tt σ2 H2 fun b H3 =>
        if b = true then te σ2 H3 fun y H4 => ∃ ys, H4 D = some (.lst ys) ∧ ys.length < sizeLine ∧ N σ2 (upd H4 D (.lst (ys ++ [y]))) else N σ2 H3))
    (hZ : ∀ (D C : Addr) (Hc : Hp) (s' : Shared) (m : Str → Option Value), s'.heap.Ns C m → (∀ h', Heap.SameBut C s'.heap h' → ∀ t', Inv X pins σ Hc { s' with heap := h', toks := t' }) → FpOk X pins Hc C → G (.ref D) Hc → Z (.ref D) C (.ok .next) s') {E : Value → Shared → Prop} :
    wpAny (model X.prog X.w) X.A (newList []) (fun acc s₃ => wpAny (model X.prog X.w) X.A (newFunctionEnv scope X.env.globals cl [] X.env.qual none .none (some X.env)) (fun cenv s₄ =>
      codeAny (model X.prog X.w) X.A (.compStart (.ListComp elt [⟨target, iter, ifs, 0⟩] scope pos) 0 (.ref it) acc { cenv with scope := relabel scope X.env }) (Z acc cenv.locals) s₄) E s₃) E s₂ := by
  refine wpAny_newObj_type (wpAny_newFunctionEnv L.nocell (by intro y hy; simp at hy) (fun h₁ hns₁ hsb₁ => ?_) L.kind)
  dsimp only at hns₁ hsb₁ ⊢
  have nD : H2 s₂.heap.objs.size = none := I2.hok.fresh (Nat.le_refl _)
  have I3 : Inv X pins σ (upd H2 s₂.heap.objs.size (.lst [])) { s₂ with heap := s₂.heap.push { cls := .type "list", dict := none, data := .seq ([] : List Value).toArray } } := by
    refine I2.laid (t' := s₂.toks) (fun b u e => Heap.get?_push_of_some _ e) (Nat.le_refl _) ?_
    exact ⟨Nat.zero_le _, [], 0, .nil, Heap.get?_push_size _ rfl⟩
  obtain ⟨W, ⟨m0, w0⟩, turn⟩ := hW s₂.heap.objs.size nD
  generalize hD : s₂.heap.objs.size = D at nD I3 turn w0 ⊢
  generalize hH : s₂.heap.push { cls := .type "list", dict := none, data := .seq ([] : List Value).toArray } = h₀ at hns₁ hsb₁ I3 ⊢
  have hpush : ∀ b o, s₂.heap.get? b = some o → h₀.get? b = some o := fun b o e => by rw [← hH]; exact Heap.get?_push_of_some _ e
  generalize hC : h₀.objs.size = C at hns₁ hsb₁ ⊢
  have belowC : ∀ b o, h₀.get? b = some o → b ≠ C := fun b o e z => by
    have := Heap.lt_size e
    rw [hC, ← z] at this
    exact Nat.lt_irrefl _ this
  have old : ∀ b o, h₀.get? b = some o → h₁.get? b = some o := fun b o e => hsb₁.extBut b o (belowC b o e) (Heap.get?_push_of_some _ e)
  have f3 : ∀ b ∈ fp, FpOk X pins (upd H2 D (.lst [])) b := fun b hb => by
    obtain ⟨x1, x2⟩ := f2 b hb
    obtain ⟨o, e, _⟩ := T.obj 0 _ st2 b hb
    refine ⟨?_, x2⟩
    rw [upd_ne (fun z => by have := Heap.lt_size e; rw [z, ← hD] at this; exact Nat.lt_irrefl _ this)]
    exact x1
  have fpC : ∀ b ∈ fp, b ≠ C := fun b hb => by
    obtain ⟨o, e, _⟩ := T.obj 0 _ st2 b hb
    exact belowC b o (hpush b o e)
  have clC : ∀ x c, cl.lookup x = some c → c ≠ C := fun x c e => by
    obtain ⟨v, o, ho, _⟩ := I3.cell x c (lc_cells L e)
    exact belowC c o ho
  let Y : Cx := lcCx X scope cl NC C { s₂ with heap := h₀ } (upd H2 D (.lst [])) fp
  have noC : (upd H2 D (.lst [])) C = none := I3.hok.fresh (by show h₀.objs.size ≤ C; rw [hC]; exact Nat.le_refl _)
  have okY : Y.Ok := by
    refine ⟨I3.ok.mod, by show (relabel scope X.env).kind = _; exact L.kind, I3.ok.glob, I3.ok.blt, by show h₀.objs.size ≤ C; rw [hC]; exact Nat.le_refl _, fun x y c e1 e2 => I3.ok.inj x y c (lc_cells L e1) (lc_cells L e2), fun x hx => ?_, fun x c z => (by cases z), I3.ok.hd, I3.ok.frames, .inl rfl, fun b hb => ⟨fpC b hb, fun x c e => (f3 b hb).2.2.2.2.1 x c (lc_cells L e)⟩, I3.bs, Nat.le_trans I3.ok.bsz I3.sz, fun b o e hb => ?_, fun b hb hm => ?_, I3.stack, I3.stkFree⟩
    · have mem : ∃ k, (x, k) ∈ (relabel scope X.env).names ∧ (k = .cell ∨ k = .free) := by
        rcases hx with z | z
        · exact ⟨_, PySem.mem_of_lookup z, .inl rfl⟩
        · exact ⟨_, PySem.mem_of_lookup z, .inr rfl⟩
      obtain ⟨k, hk, hk2⟩ := mem
      have q := List.all_eq_true.mp L.has (x, k) hk
      have q2 : (cl.lookup x).isSome = true := by
        rcases hk2 with z | z
        · subst z; simpa using q
        · subst z; simpa using q
      exact Option.isSome_iff_exists.mp q2
    · rcases (f3 b hb).2.2.2.1 with z | z
      · exact I3.ok.noex b o e z
      · exact absurd (Nat.lt_of_lt_of_le (Heap.lt_size e) (Nat.le_trans I3.ok.bsz z)) (Nat.lt_irrefl _)
    · rcases List.mem_cons.mp (I3.stkSub b hm) with z | z
      · exact (f3 b hb).2.1 z
      · exact (f3 b hb).2.2.1 z
  have stat : ∀ {Hc : Hp}, (∀ b ∈ fp, Hc b = none) → ∀ b ∈ fp, FpOk Y [] Hc b := fun hn b hb =>
    ⟨hn b hb, fpC b hb, okY.exfs b hb, .inl hb, fun x c e => (okY.exf b hb).2 x c e, fun p hp => absurd (show p ∈ ([] ++ [] : List (Addr × Obj)) from hp) (by simp)⟩
  have back : ∀ {σc : L2.St} {Hc : Hp} {s' : Shared} {pn : List (Addr × Obj)}, Inv Y pn σc Hc s' → ∀ h', Heap.SameBut C s'.heap h' → ∀ t', Inv X pins σ Hc { s' with heap := h', toks := t' } := fun {σc Hc s' pn} I' h' sb t' => by
    have u := I'.base
    have nC : Hc C = none := I'.free
    refine I3.call' (s' := { s' with heap := h', toks := t' }) (ch := fp) I'.os ⟨fun b o e n hb hx => ?_, fun b o e n hb hx => ?_, u.free, fun b o e hx => ?_, u.tups, u.frzs, u.tbls⟩ (fun b o e => ?_) I'.bare (fun b hb => ⟨(f3 b hb).2.2.2.1, (f3 b hb).2.1, (f3 b hb).2.2.2.2.1, (f3 b hb).2.2.2.2.2⟩)
    · exact (sb.2 b (belowC b o e)).trans (u.keep b o e n hb hx)
    · obtain ⟨sl, q⟩ := u.slot b o e n hb hx
      exact ⟨sl, (sb.2 b (belowC b o e)).trans q⟩
    · obtain ⟨o', q⟩ := u.there b o e hx
      exact ⟨o', (sb.2 b (belowC b o e)).trans q⟩
    · refine (I'.hok b o e).stay (fun c v hcb q => (sb.2 c ?_).trans q) (fun _ q => q) fun _ _ q => q
      rintro rfl
      rcases hcb with z | z
      · subst z
        rw [nC] at e; cases e
      · rw [nC] at z; cases z
  have Ist : ∀ t', Inv Y [] (capσ cap σ) (upd H2 D (.lst [])) { s₂ with heap := h₁, toks := t' } := fun t' => by
    refine ⟨okY, rfl, I3.bare, ⟨fun b o e _ _ _ => old b o e, fun b o e _ _ _ => ⟨o.slots, old b o e⟩, fun _ _ _ n _ => n, fun b o e _ => ⟨o, old b o e⟩, fun _ _ e => e, fun _ _ _ e => e, fun b ps e => ⟨#[], by rw [show (upd H2 D (.lst [])) b = _ from e]; simp⟩⟩, ⟨_, hns₁, fun j y v e1 e2 e3 => ?_⟩, fun y c e => ?_, noC, fun y c e => I3.freeC y c (lc_cells L e), fun p hp => absurd (show p ∈ ([] ++ [] : List (Addr × Obj)) from hp) (by simp), I3.hok.kept old, by
      show (cap.map _).length = NC.length
      rw [List.length_map]; exact L.caps.len⟩
    · have e2' : (cap.map fun o => o.bind fun i => (σ[i]?).bind id)[j]? = some (some v) := e2
      rw [List.getElem?_map] at e2'
      cases hq : cap[j]? with
      | none => rw [hq] at e2'; cases e2'
      | some o =>
        rw [hq] at e2'
        cases o with
        | none => cases e2'
        | some i =>
          have e4 : (σ[i]?).bind id = some v := by simpa using e2'
          have e5 : σ[i]? = some (some v) := by
            cases hs : σ[i]? with
            | none => rw [hs] at e4; cases e4
            | some z => rw [hs] at e4; simpa using e4
          obtain ⟨c, x1, x2, x3, x4, x5⟩ := L.caps.at hq e1
          obtain ⟨m, hn, hl⟩ := I3.loc
          obtain ⟨u, r, l⟩ := hl i y v x1 e5 (.inr (.inl x2))
          refine ⟨u, r, .inr ⟨.inl x5, c, x3, ?_⟩⟩
          rcases l with ⟨k, _⟩ | ⟨_, c', x6, z⟩
          · have k' : X.env.scope.names.lookup y = some .local := k
            rw [x2] at k'; cases k'
          · rw [x4] at x6; cases x6
            obtain ⟨o, ho, hd⟩ := z
            exact ⟨o, old _ _ ho, hd⟩
    · obtain ⟨v, o, ho, hd⟩ := I3.cell y c (lc_cells L e)
      exact ⟨v, o, old _ _ ho, hd⟩
  have loop : ∀ s₃ : Shared, s₃ = { s₂ with heap := h₁, toks := s₂.toks + ([] : List (Str × Value)).length } →
      codeAny (model X.prog X.w) X.A (.compLoop (.ListComp elt [⟨target, iter, ifs, 0⟩] scope pos) 0 (.ref it) (.ref D) (compEnvC scope cl C X.env)) (Z (.ref D) C) s₃ := by
    rintro s₃ rfl
    refine lc_loop (fun n s' => ∃ i σc Hc, Inv Y [] σc Hc s' ∧ tn i s'.heap ∧ (∀ b ∈ fp, Hc b = none) ∧ W i n σc Hc) ?_ m0 ⟨0, capσ cap σ, _, Ist _, T.keep _ _ _ st2 (fun b hb o e => old b o (hpush b o e)), fun b hb => (f3 b hb).1, w0⟩
    rintro n s5 ⟨i, σc, Hc, I5, st5, fr5, w5⟩ E'
    rcases turn i n σc Hc w5 with ⟨stop, qn⟩ | ⟨go, N, hN, step⟩
    · refine wpAny_mono (T.done Y rfl rfl rfl hc i [] s5 σc Hc E' I5 (stat fr5) st5 stop) (fun r s6 ⟨hr, I6⟩ => ?_) fun _ _ z => z
      subst hr
      obtain ⟨m, hn, _⟩ := id I6.loc
      exact hZ D C Hc s6 m hn (back I6) (I3.fpOk (by show h₀.objs.size ≤ C; rw [hC]; exact Nat.le_refl _) I6.free) qn
    · refine wpAny_mono (T.item Y rfl rfl rfl hc i [] s5 σc Hc E' I5 (stat fr5) st5 go) (fun r s6 ⟨u, hr, h6⟩ => ?_) fun _ _ z => z
      subst hr
      refine wpAny_mono h6 (fun _ s7 ⟨x, H7, I7, r7, y7, st7, fr7⟩ => ?_) fun _ _ z => z
      have I7' := I7.pinned (stat fr7) (T.obj _ _ st7)
      refine wpAny_mono (hg C _ _ fp _ s7 σc H7 x u _ I7' r7 (step x H7 y7)) (fun _ s8 ⟨σ8, H8, I8, q8⟩ => ?_) fun _ _ z => False.elim z
      have again : ∀ {σ9 : L2.St} {H9 : Hp} {s9 : Shared}, Inv Y ([] ++ pinsAt fp s7.heap) σ9 H9 s9 → N σ9 H9 → ∃ m, m < n ∧ ∃ i σ' H', Inv Y [] σ' H' s9 ∧ tn i s9.heap ∧ (∀ b ∈ fp, H' b = none) ∧ W i m σ' H' := fun {σ9 H9 s9} I9 n9 => by
        obtain ⟨m', hm, w9⟩ := hN σ9 H9 n9
        refine ⟨m', hm, i + 1, σ9, H9, I9.unpinned, T.keep _ _ _ st7 fun b hb o e => (I9.pin (b, o) (List.mem_append_right _ (List.mem_append_right _ (mem_pinsAt hb e)))).1, fun b hb => ?_, w9⟩
        obtain ⟨o, e, d⟩ := T.obj _ _ st7 b hb
        exact (I9.pin (b, o) (List.mem_append_right _ (List.mem_append_right _ (mem_pinsAt hb e)))).2.1
      refine wpAny_mono (ht C _ _ fp _ s8 σ8 H8 _ I8 q8) (fun ok s9 ⟨H9, I9, q9⟩ => ?_) fun _ _ z => False.elim z
      cases ok with
      | false =>
        rw [if_neg Bool.false_ne_true] at q9 ⊢
        exact again I9 q9
      | true =>
        rw [if_pos rfl] at q9 ⊢
        refine wpAny_mono (he C _ _ fp _ s9 σ8 H9 _ I9 q9) (fun v sa ⟨y, Ha, Ia, ra, ys, hy, hl, na⟩ => ?_) fun _ _ z => False.elim z
        have app := mt_append (X := Y) _ sa σ8 Ha (.ref D) [y] (.ref D) [v] (fun _ Hb => N σ8 Hb) Ia rfl (.cons ra .nil) ⟨D, ys, y, rfl, rfl, hy, hl, na⟩
        exact wpAny_mono app (fun _ sb ⟨_, Hb, Ib, _, nb⟩ => again Ib nb) fun _ _ z => False.elim z
  exact codeAny_compStart_list (loop _ rfl) (T.self _ 0 _ _ _ (T.keep _ _ _ st2 fun b hb o e => old b o (hpush b o e)) (loop _ rfl))
theorem pe_lc (hc : X.calm = true) (L : LcOk X scope cl cap NC) (hi : PI X target iter wi) (hg : ∀ C s₀ H₀ fp, PG (lcCx X scope cl NC C s₀ H₀ fp) target g) (ht : ∀ C s₀ H₀ fp, PTs (lcCx X scope cl NC C s₀ H₀ fp) ifs tt) (he : ∀ C s₀ H₀ fp, PE (lcCx X scope cl NC C s₀ H₀ fp) elt te)
    (hs : ∀ x, foldedSetIterable iter X.env x = pure x := by intro _; rfl) : PE X (.ListComp elt [⟨target, iter, ifs, 0⟩] scope pos) (tLC wi cap g tt te) := by
  intro pins s σ H Q I h
  rw [eval_ListComp]
  refine wpAny_comprehension_free (use := none) rfl hs L.clos L.kind L.names (thn (hi pins s σ H _ I h) fun xv s₁ h₁ => thn h₁ fun itv s₂ h₂ => ?_)
  obtain ⟨it, fp, tn, J, H2, rfl, I2, T, st2, f2, hq⟩ := h₂
  refine lc_block (G := Q) hc L hg ht he I2 T st2 f2 hq fun D C Hc s' m hn back _ q => ?_
  exact ⟨m, hn, fun h' sb => ⟨.ref D, Hc, back h' sb _, rfl, q⟩⟩
end
end Lx
namespace Lx
open PySem PySem.Spec PyProof.Rows L2
mutual
inductive DV (K : PySem.W.Frag) (H : Hp) : V → PyData → Prop
  | non : DV K H .non .none
  | bl (b : Bool) : DV K H (.bl b) (.bool b)
  | int (i : Int) : DV K H (.int i) (.int i)
  | str (x : Str) : DV K H (.str x) (.str x)
  | tup {a : Addr} {xs : List V} {ds : List PyData} : SqT K H a xs → DVs K H xs ds → DV K H (.ref a) (.tuple ds)
  | lst {a : Addr} {xs : List V} {ds : List PyData} : SqL K H a xs → DVs K H xs ds → DV K H (.ref a) (.list ds)
    | dct {a : Addr} {x y : Str} : H a = some (.dK [(.inr x, .str y)]) → DV K H (.ref a) (.dict [(.str x, .str y)])
inductive DVs (K : PySem.W.Frag) (H : Hp) : List V → List PyData → Prop
  | nil : DVs K H [] []
  | cons {x : V} {xs : List V} {d : PyData} {ds : List PyData} : DV K H x d → DVs K H xs ds → DVs K H (x :: xs) (d :: ds)
end
section
variable {X : Cx} {pins : List (Addr × Obj)} {σ : L2.St} {H : Hp} {s : Shared}
mutual
theorem dv_reads (I : Inv X pins σ H s) : ∀ {x : V} {d : PyData} {u : Value}, DV X.K H x d → RelV x u → ∃ as, Reads s.heap u d as
  | _, _, u, .non, r => by
    cases (show u = Value.none from r)
    exact ⟨_, .none⟩
  | _, _, u, .bl b, r => by
    cases (show u = Value.bool b from r)
    exact ⟨_, .bool b⟩
  | _, _, u, .int i, r => by
    obtain ⟨t, rfl⟩ := r
    exact ⟨_, .int i t⟩
  | _, _, u, .str x, r => by
    obtain ⟨t, rfl⟩ := r
    exact ⟨_, .str x t⟩
  | _, _, u, @DV.tup _ _ a xs ds h hs, r => by
    cases (show u = Value.ref a from r)
    obtain ⟨its, rv, ⟨o, ho, hc, n, hd⟩, _⟩ := I.tuple h
    obtain ⟨as, q⟩ := dvs_reads I hs rv
    exact ⟨_, .tuple ho hc hd (by simpa using q)⟩
  | _, _, u, @DV.lst _ _ a xs ds h hs, r => by
    cases (show u = Value.ref a from r)
    obtain ⟨its, rv, ⟨o, n, ho, hc, _, hd⟩, _⟩ := I.list h
    obtain ⟨as, q⟩ := dvs_reads I hs rv
    exact ⟨_, .list ho hc hd (by simpa using q)⟩
  | _, _, u, @DV.dct _ _ a x y h, r => by
    cases (show u = Value.ref a from r)
    obtain ⟨_, _, vs, rel, o, es, ep, ho, hc, hd, hk, hp, _⟩ := (show ObjOk X.prog X.w H s.heap a (.dK [(.inr x, .str y)]) from I.hok a _ h)
    unfold KV at rel
    cases rel with
    | @cons p q ps qs h1 t =>
      cases t
      obtain ⟨k, v⟩ := q
      obtain ⟨e1, t1, e2⟩ := h1
      have e1' : Sum.inr x = k := e1
      subst e1'
      have e2' : v = Value.str y t1 := e2
      subst e2'
      generalize hes : es.toList = l at hp
      cases hp with
      | @cons e kv es' kvs' hk1 hv1 ht1 =>
        cases ht1
        have hk2 : keyIs (.inr x) e.key = true := hk1
        have ek : ∃ t2, e.key = Value.str x t2 := by
          rcases keyIs_shape hk2 with ⟨i, t2, z, _⟩ | ⟨x2, t2, z, z2⟩
          · exact nomatch z
          · cases z; exact ⟨t2, z2⟩
        obtain ⟨t2, ek⟩ := ek
        have ev : e.val = Value.str y t1 := hv1
        exact ⟨_, .dict (as := [] ++ []) (bs := [] ++ []) ho hc.1 hd (by rw [hes]; show ReadsAll _ [e.key] [PyData.str x] _; rw [ek]; exact .cons (.str x t2) .nil) (by rw [hes]; show ReadsAll _ [e.val] [PyData.str y] _; rw [ev]; exact .cons (.str y t1) .nil)⟩
theorem dvs_reads (I : Inv X pins σ H s) : ∀ {xs : List V} {ds : List PyData} {us : List Value}, DVs X.K H xs ds → Vals xs us → ∃ as, ReadsAll s.heap us ds as
  | _, _, _, .nil, .nil => ⟨_, .nil⟩
  | _, _, _, .cons h hs, .cons r rs => by
    obtain ⟨as, q⟩ := dv_reads I h r
    obtain ⟨bs, qs⟩ := dvs_reads I hs rs
    exact ⟨_, .cons q qs⟩
end
end
structure Enc (α : Type) where
  d : α → PyData
  dep : Nat
  small : dep ≤ 60
  lay : ∀ x, (d x).canLay0 = true
  depth : ∀ x, (d x).depth ≤ dep
  eqv : ∀ x y, PyData.eqv (d x) (d y) = true ↔ x = y
theorem Enc.shaped {α : Type} (e : Enc α) (x : α) : SeqAt.shaped (e.d x) = true := by
  unfold SeqAt.shaped
  rw [e.lay, Bool.true_and]
  exact decide_eq_true (Nat.le_trans (e.depth x) (Nat.le_trans e.small (by decide)))
theorem enc_all {α : Type} (e : Enc α) : ∀ (xs : List α), PyData.canLayAll0 (xs.map e.d) = true ∧ PyData.depthAll (xs.map e.d) ≤ e.dep
  | [] => ⟨rfl, by simp [PyData.depthAll]⟩
  | x :: xs => by
    obtain ⟨h1, h2⟩ := enc_all e xs
    have h3 := e.lay x
    have h4 := e.depth x
    constructor
    · show ((e.d x).canLay0 && PyData.canLayAll0 (xs.map e.d)) = true
      rw [h3, h1]; rfl
    · show PyData.depthAll (e.d x :: xs.map e.d) ≤ e.dep
      simp only [PyData.depthAll]
      omega
theorem enc_eqvAll {α : Type} (e : Enc α) : ∀ (xs ys : List α), PyData.eqvAll (xs.map e.d) (ys.map e.d) = true ↔ xs = ys
  | [], [] => by simp [PyData.eqvAll]
  | [], y :: ys => by simp [PyData.eqvAll]
  | x :: xs, [] => by simp [PyData.eqvAll]
  | x :: xs, y :: ys => by
    have h := enc_eqvAll e xs ys
    have h2 := e.eqv x y
    simp only [List.map_cons, PyData.eqvAll, Bool.and_eq_true, h, h2, List.cons.injEq]
noncomputable def eList {α : Type} (e : Enc α) (h : e.dep ≤ 50) : Enc (List α) where
  d := fun xs => .list (xs.map e.d)
  dep := e.dep + 1
  small := by omega
  lay := fun xs => by show PyData.canLayAll0 _ = true; exact (enc_all e xs).1
  depth := fun xs => by
    have := (enc_all e xs).2
    simp only [PyData.depth]
    omega
  eqv := fun xs ys => by
    show PyData.eqvAll _ _ = true ↔ _
    exact enc_eqvAll e xs ys
noncomputable def eRat : Enc Rat where
  d := fun q => .tuple [.int q.num, .int (q.den : Int)]
  dep := 1
  small := by decide
  lay := fun q => by simp [PyData.canLay0, PyData.canLayAll0]
  depth := fun q => by simp [PyData.depth, PyData.depthAll]
  eqv := fun p q => by
    simp only [PyData.eqv, PyData.eqvAll, Bool.and_eq_true, beq_iff_eq, and_true]
    constructor
    · rintro ⟨h1, h2⟩
      exact Rat.ext h1 (by omega)
    · rintro rfl
      exact ⟨rfl, rfl⟩
noncomputable def rEqD (K : PySem.W.Frag) (neg : Bool) : R2 := fun x y H Q => ∃ (α : Type) (e : Enc α) (a b : α), DV K H x (e.d a) ∧ DV K H y (e.d b) ∧ ∀ k : Bool, (k = true ↔ a = b) → Q (.bl (if neg then !k else k)) H
section
variable {X : Cx}
theorem op_eqD (hu : X.A.units + 64 < cLine) : OpR X (compareOp .Eq) (rEqD X.K false) := by
  intro pins s σ H x y v u Q I rx ry h
  obtain ⟨α, e, a, b, da, db, q⟩ := h
  obtain ⟨as, r1⟩ := dv_reads I da rx
  obtain ⟨bs, r2⟩ := dv_reads I db ry
  exact eq_dataH r1 r2 (e.shaped a) (e.shaped b) hu ⟨.bl _, H, I, rfl, q _ (e.eqv a b)⟩
theorem op_neD (hu : X.A.units + 64 < cLine) : OpR X (compareOp .NotEq) (rEqD X.K true) := by
  intro pins s σ H x y v u Q I rx ry h
  obtain ⟨α, e, a, b, da, db, q⟩ := h
  obtain ⟨as, r1⟩ := dv_reads I da rx
  obtain ⟨bs, r2⟩ := dv_reads I db ry
  exact ne_dataH r1 r2 (e.shaped a) (e.shaped b) hu ⟨.bl _, H, I, rfl, q _ (e.eqv a b)⟩
theorem any_enc {α : Type} (e : Enc α) (a : α) : ∀ bs : List α, ((bs.map e.d).any fun y => PyData.eqv y (e.d a)) = true ↔ a ∈ bs
  | [] => by simp
  | b :: bs => by
    have h := any_enc e a bs
    have h2 := e.eqv b a
    simp only [List.map_cons, List.any_cons, Bool.or_eq_true, h, h2, List.mem_cons]
    constructor
    · rintro (z | z)
      · exact .inl z.symm
      · exact .inr z
    · rintro (z | z)
      · exact .inl z.symm
      · exact .inr z
end
end Lx
namespace Lx
open PySem PySem.Spec PyProof.Rows L2
structure ExcK (K : PySem.W.Frag) (C : Addr) : Prop where
  fg : PySem.W.findIn K (.ref C) "__getattribute__" = some (some (.builtin "BaseException.__getattribute__"))
  fa : PySem.W.findIn K (.ref C) "__getattr__" = some none
  fc : PySem.W.findIn K (.ref C) "__class__" = some (some (.builtin "object.__class__"))
  so : PySem.W.subIn K (.ref C) (.type "object") = some true
  sb : PySem.W.subIn K (.ref C) (.type "BaseException") = some true
section
variable {prog : Program} {w : World} {A : Around} {E : Value → Shared → Prop} {h : Heap} {g : Array GenState} {d : Drawn} {t : Nat} {os : OsState} {a C : Addr} {o : Obj} {K : PySem.W.Frag}
end
noncomputable def IsExc (x C : Addr) (h : Heap) : Prop := ∃ o vs, h.get? x = some o ∧ o.cls = .ref C ∧ o.data = .fields vs
section
variable {X : Cx}
variable {pins : List (Addr × Obj)} {σ : L2.St} {H : Hp} {s : Shared} {x C : Addr}
end
end Lx
namespace Lx
open PySem PySem.Spec PyProof.Rows L2
section
variable {X : Cx} {K : PySem.W.Frag}
theorem ixlK (h : X.K = K) : IxR X (rIxL K) := by subst h; exact ix_list
theorem ixtK (h : X.K = K) : IxR X (rIxT K) := by subst h; exact ix_tup
theorem lenK (h : X.K = K) : CallR X (.builtin "len") (fun xs H Q => ∃ p ys, xs = [.ref p] ∧ (SqL K H p ys ∨ SqT K H p ys) ∧ Q (.int ys.length) H) := by subst h; exact call_len_seq
theorem listK (h : X.K = K) : CallR X (.type "list") (fun xs H Q => ∃ p ys, xs = [.ref p] ∧ (SqL K H p ys ∨ SqT K H p ys) ∧ ∀ l, H l = none → Q (.ref l) (upd H l (.lst ys))) := by subst h; exact call_list_of
theorem sllK (h : X.K = K) : SlR X (rSlL K) := by subst h; exact sl_list
theorem eqK (h : X.K = K) (hu : X.A.units + 64 < cLine) : OpR X (compareOp .Eq) (rEqD K false) := by subst h; exact op_eqD hu
theorem neK (h : X.K = K) (hu : X.A.units + 64 < cLine) : OpR X (compareOp .NotEq) (rEqD K true) := by subst h; exact op_neD hu
theorem pilK {tg l : Expr} {tl : TE} (h : X.K = K) (hl : PE X l tl) : PI X tg l (iList K tl) := by subst h; exact pi_list hl
theorem pgtK {es : List Expr} {k : Nat} {pos : Pos} {t : TGs} {n : Nat} (h : X.K = K) (hc : X.calm = true) (hg : PGs X es t)
    (hn : (assignEach es X.env).length = n := by rfl) (hst : (assignEach es X.env).findIdx? (·.1) = none := by rfl) : PG X (.Tuple es k pos) (gTup K n t) := by subst h; exact pg_tup hc hg hn hst
end
end Lx
namespace Lx
open PySem PySem.Spec PyProof.Rows L2
section
variable {X : Cx} {elt target iter : Expr} {ifs : List Expr} {scope : Scope} {pos spos pos' : Pos} {wi : TI} {cap : List (Option Nat)} {NC : List Str} {cl : List (Str × Addr)} {g : TG} {tt : TT} {te : TE}
theorem ps_setLC {i : Nat} {x : Str} (hN : X.N.Nodup) (hi : X.N[i]? = some x) (hx : X.env.scope.names.lookup x = some .local) (hc : X.calm = true) (L : LcOk X scope cl cap NC) (hit : PI X target iter wi)
    (hg : ∀ C s₀ H₀ fp, PG (lcCx X scope cl NC C s₀ H₀ fp) target g) (ht : ∀ C s₀ H₀ fp, PTs (lcCx X scope cl NC C s₀ H₀ fp) ifs tt) (he : ∀ C s₀ H₀ fp, PE (lcCx X scope cl NC C s₀ H₀ fp) elt te)
    (hsw : swapsWith (.ListComp elt [⟨target, iter, ifs, 0⟩] scope pos) (some (.Name x pos')) spos.line X.env = pure true := by rfl)
    (hs : ∀ x, foldedSetIterable iter X.env x = pure x := by intro _; rfl) : PS X (.Assign [.Name x pos'] (.ListComp elt [⟨target, iter, ifs, 0⟩] scope pos) spos) (tAsg (tLC wi cap g tt te) (gName i)) := by
  intro pins s σ H D I h
  rw [exec_Assign_Name_used _ _ _ _ hsw]
  refine wpAny_bind (wpAny_standAt (wpAny_bind ?_))
  show wpAny _ X.A (do let _ ← comprehension (.ListComp elt [⟨target, iter, ifs, 0⟩] scope pos) scope X.env _ (newList []) false (eval iter X.env) (some (assign (.Name x pos') X.env))) _ _ s
  refine wpAny_bind (wpAny_mono (wpAny_comprehension_free (use := some (assign (.Name x pos') X.env)) (Q := fun _ s' => SP X pins D .next s') rfl hs L.clos L.kind L.names
    (thn (hit pins s σ H _ I h) fun xv s₁ h₁ => thn h₁ fun itv s₂ h₂ => ?_)) (fun _ s' hq => wpAny_pure (wpAny_pure hq)) fun _ _ e => e)
  obtain ⟨it, fp, tn, J, H2, rfl, I2, T, st2, f2, hq⟩ := h₂
  refine lc_block (G := fun v H' => D.nx (σ.set i (some v)) H') hc L hg ht he I2 T st2 f2 hq fun Dd C Hc s' m hn back fpC q => ?_
  obtain ⟨z1, z2, z3, z4, z5, z6⟩ := fpC
  have Ib : Inv X pins σ Hc s' := back s'.heap (.refl _ _) s'.toks
  show wpAny _ X.A (assign (.Name x pos') X.env (.ref Dd)) _ _ _
  refine wpAny_assign_Name (store_ok2 Ib hN hi (.inl hx) (show RelV (.ref Dd) (.ref Dd) from rfl) (fun s2 I2 ⟨a, sb, ha⟩ => ?_) (.inr hx))
  have hCa : C ≠ a := by
    rcases ha with z | z
    · rw [z]; exact z2
    · exact fun e => z5 x a z e.symm
  refine ⟨m, hn.sameBut sb hCa, fun h' sb' => ⟨_, Hc, ?_, q⟩⟩
  exact I2.turned (t' := s2.toks) (it := C) (fun b o hb e => (sb'.2 b hb).trans e) z1 z2 z4 z5 z6
end
theorem ints_vals : ∀ {ns : List Int} {us : List Value}, Vals (ns.map V.int) us → ∃ xs : List (Int × Tok), us = xs.map (fun p => Value.int p.1 p.2) ∧ xs.map (·.1) = ns
  | [], _, .nil => ⟨[], rfl, rfl⟩
  | n :: ns, _, .cons r rs => by
    obtain ⟨t, rfl⟩ := r
    obtain ⟨xs, rfl, e⟩ := ints_vals rs
    exact ⟨(n, t) :: xs, rfl, by simp [e]⟩
section
variable {X : Cx} {K : PySem.W.Frag}
theorem call_sum (hc : X.calm = true) : CallR X (.builtin "sum") (fun xs H Q => ∃ (p : Addr) (ns : List Int), xs = [.ref p] ∧ SqL X.K H p (ns.map V.int) ∧ Q (.int ns.sum) H) := by
  intro pins s σ H xs us Q I r h
  obtain ⟨p, ns, rfl, hq, q⟩ := h
  obtain ⟨u, rfl, rx⟩ := vals1 r
  cases rx
  obtain ⟨its, r', pl, hz⟩ := I.list hq
  obtain ⟨ys, rfl, e⟩ := ints_vals r'
  have hl : s.heap.IsList p (intItems ys.toArray) := by
    have := pl.isList
    simpa [intItems] using this
  refine sum_intListG (I.ok.hd hc) hl fun h' tk t' hk => ?_
  refine ⟨.int ns.sum, H, I.kept (t' := tk) hk, ⟨t', ?_⟩, q⟩
  rw [preSum_eq, List.take_of_length_le (by simp)]
  simp [e]
theorem sumK (h : X.K = K) (hc : X.calm = true) : CallR X (.builtin "sum") (fun xs H Q => ∃ (p : Addr) (ns : List Int), xs = [.ref p] ∧ SqL K H p (ns.map V.int) ∧ Q (.int ns.sum) H) := by subst h; exact call_sum hc
end
end Lx
namespace Fm
theorem abs_if (i : Int) : (if i < 0 then -i else i) = ((i.natAbs : Nat) : Int) := by omega
theorem gcd_step (a b : Int) (h : 0 < b) : Int.gcd b (a % b) = Int.gcd a b := by
  rw [Int.gcd_comm b (a % b), Int.emod_def]
  exact Int.gcd_sub_mul_left_left _ _ _
theorem gcd_zero {a : Int} (h : 0 ≤ a) : ((Int.gcd a 0 : Nat) : Int) = a := by
  rw [Int.gcd_zero_right]; omega
theorem gcd_le_right {a b : Int} (hb : b ≠ 0) : Int.gcd a b ≤ b.natAbs := Nat.le_of_dvd (by omega) (Int.gcd_dvd_natAbs_right a b)
theorem gcd_pos_right {a b : Int} (hb : b ≠ 0) : 0 < Int.gcd a b := Int.gcd_pos_of_ne_zero_right a hb
theorem fr_num {t b : Int} (hb : b ≠ 0) : t.fdiv (if b < 0 then -((Int.gcd t b : Nat) : Int) else ((Int.gcd t b : Nat) : Int)) = (Rat.divInt t b).num := by
  rw [Rat.num_divInt, Int.gcd_comm b t]
  have hg : (0 : Int) < ((Int.gcd t b : Nat) : Int) := by have := gcd_pos_right (a := t) hb; omega
  have hd : ((Int.gcd t b : Nat) : Int) ∣ t := Int.gcd_dvd_left t b
  split
  · rename_i hn
    rw [Int.sign_eq_neg_one_of_neg hn]
    obtain ⟨k, hk⟩ := hd
    generalize ((Int.gcd t b : Nat) : Int) = g at hg hk
    subst hk
    rw [show -1 * (g * k) = g * (-k) by grind, Int.mul_ediv_cancel_left _ (by omega)]
    rw [show g * k = (-g) * (-k) by grind]
    exact Int.mul_fdiv_cancel_left _ (by omega)
  · rename_i hn
    rw [Int.sign_eq_one_of_pos (by omega), Int.one_mul, Int.fdiv_eq_ediv_of_nonneg _ (by omega)]
theorem fr_den {t b : Int} (hb : b ≠ 0) : b.fdiv (if b < 0 then -((Int.gcd t b : Nat) : Int) else ((Int.gcd t b : Nat) : Int)) = (((Rat.divInt t b).den : Nat) : Int) := by
  rw [Rat.den_divInt, if_neg hb, Int.gcd_comm b t]
  have hg : (0 : Int) < ((Int.gcd t b : Nat) : Int) := by have := gcd_pos_right (a := t) hb; omega
  have hd : ((Int.gcd t b : Nat) : Int) ∣ b := Int.gcd_dvd_right t b
  rw [Int.natCast_ediv]
  split
  · rename_i hn
    rw [show ((b.natAbs : Nat) : Int) = -b by omega]
    obtain ⟨k, hk⟩ := hd
    generalize ((Int.gcd t b : Nat) : Int) = g at hg hk
    subst hk
    rw [show -(g * k) = g * (-k) by grind, Int.mul_ediv_cancel_left _ (by omega)]
    rw [show g * k = (-g) * (-k) by grind]
    exact Int.mul_fdiv_cancel_left _ (by omega)
  · rename_i hn
    rw [show ((b.natAbs : Nat) : Int) = b by omega, Int.fdiv_eq_ediv_of_nonneg _ (by omega)]
theorem add_parts (a b : Rat) (s : Nat) (hs : s = a.den.gcd b.den) (tp : Int) (ht : tp = a.num * ((b.den / s : Nat) : Int) + b.num * ((a.den / s : Nat) : Int)) (g : Nat) (hg : g = s.gcd tp.natAbs) :
    (a + b).num = tp / (g : Int) ∧ (a + b).den = a.den / s * (b.den / g) := by
  have hs0 : 0 < s := by rw [hs]; exact Nat.gcd_pos_of_pos_left _ (Nat.pos_of_ne_zero a.den_nz)
  have hg0 : 0 < g := by rw [hg]; exact Nat.gcd_pos_of_pos_left _ hs0
  have hgs : g ∣ s := by rw [hg]; exact Nat.gcd_dvd_left _ _
  have hsb : s ∣ b.den := by rw [hs]; exact Nat.gcd_dvd_right _ _
  have hgb : g ∣ b.den := Nat.dvd_trans hgs hsb
  have e : a.den / s * (b.den / g) = a.den / s * b.den / g := (Nat.mul_div_assoc _ hgb).symm
  rw [e]
  show (Rat.add a b).num = _ ∧ (Rat.add a b).den = _
  unfold Rat.add
  simp only [← hs]
  split
  · rename_i h1
    have : g = 1 := by rw [hg, h1]; exact Nat.gcd_one_left _
    subst this
    dsimp only
    rw [ht, h1]
    simp
  · rename_i h1
    simp only [Rat.maybeNormalize_eq]
    have hg2 : (a.num * ((b.den / s : Nat) : Int) + b.num * ((a.den / s : Nat) : Int)).natAbs.gcd s = g := by rw [hg, ← ht, Nat.gcd_comm]
    have hd : (g : Int) ∣ tp := by
      rw [hg]
      exact Int.ofNat_dvd_left.mpr (Nat.gcd_dvd_right _ _)
    constructor
    · rw [Int.divExact_eq_tdiv, hg2, ← ht, Int.tdiv_eq_ediv_of_dvd hd]
    · rw [hg2]
theorem mul_parts (a b : Rat) : (a * b).num = (Rat.divInt a.num (b.den : Int)).num * (Rat.divInt b.num (a.den : Int)).num ∧ (a * b).den = (Rat.divInt a.num (b.den : Int)).den * (Rat.divInt b.num (a.den : Int)).den := by
  show (Rat.mul a b).num = _ ∧ (Rat.mul a b).den = _
  have ha : (a.den : Int) ≠ 0 := by have := a.den_nz; omega
  have hb : (b.den : Int) ≠ 0 := by have := b.den_nz; omega
  rw [Rat.num_divInt, Rat.num_divInt, Rat.den_divInt, Rat.den_divInt, if_neg ha, if_neg hb]
  have e1 : ((b.den : Nat) : Int).sign = 1 := Int.sign_eq_one_of_pos (by have := b.den_nz; omega)
  have e2 : ((a.den : Nat) : Int).sign = 1 := Int.sign_eq_one_of_pos (by have := a.den_nz; omega)
  rw [e1, e2, Int.one_mul, Int.one_mul]
  unfold Rat.mul
  dsimp only
  have g1 : Int.gcd ((b.den : Nat) : Int) a.num = a.num.natAbs.gcd b.den := by rw [Int.gcd_comm]; rfl
  have g2 : Int.gcd ((a.den : Nat) : Int) b.num = b.num.natAbs.gcd a.den := by rw [Int.gcd_comm]; rfl
  rw [g1, g2]
  constructor
  · rw [Int.divExact_eq_tdiv, Int.divExact_eq_tdiv, Int.tdiv_eq_ediv_of_dvd (Int.ofNat_dvd_left.mpr (Nat.gcd_dvd_left _ _)), Int.tdiv_eq_ediv_of_dvd (Int.ofNat_dvd_left.mpr (Nat.gcd_dvd_left _ _))]
  · rw [Nat.mul_comm]; rfl
theorem div_inv (b : Rat) : Rat.divInt (b.den : Int) b.num = b⁻¹ := (Rat.inv_def b).symm
theorem less_iff (a b : Rat) : (a.num * (b.den : Int) < b.num * (a.den : Int)) ↔ a < b := (Rat.lt_iff a b).symm
theorem lowest (q : Rat) : Int.gcd q.num (q.den : Int) = 1 := q.reduced
theorem den_pos (q : Rat) : (1 : Int) ≤ (q.den : Int) := by have := q.den_nz; omega
theorem cross (t b : Int) (hb : b ≠ 0) : (Rat.divInt t b).num * b = t * ((Rat.divInt t b).den : Int) := by
  have h := Rat.num_divInt_den (Rat.divInt t b)
  exact (Rat.divInt_eq_divInt_iff (by have := (Rat.divInt t b).den_nz; omega) hb).mp h
theorem num_le (t : Int) {b : Int} (hb : b ≠ 0) : (Rat.divInt t b).num.natAbs ≤ t.natAbs := by
  have h := cross t b hb
  have h2 := Fm.den_pos (Rat.divInt t b)
  rw [← fr_num hb]
  have hg : (0 : Int) < ((Int.gcd t b : Nat) : Int) := by have := gcd_pos_right (a := t) hb; omega
  obtain ⟨k, hk⟩ : ((Int.gcd t b : Nat) : Int) ∣ t := Int.gcd_dvd_left t b
  generalize ((Int.gcd t b : Nat) : Int) = g at hg hk
  subst hk
  have le : k.natAbs ≤ (g * k).natAbs := by
    rw [Int.natAbs_mul]
    exact Nat.le_mul_of_pos_left _ (by omega)
  split
  · rw [show g * k = (-g) * (-k) by grind, Int.mul_fdiv_cancel_left _ (by omega)]
    rw [show (-g) * (-k) = g * k by grind]
    omega
  · rw [Int.mul_fdiv_cancel_left _ (by omega)]
    exact le
theorem den_le (t : Int) {b : Int} (hb : b ≠ 0) : (Rat.divInt t b).den ≤ b.natAbs := by
  rw [Rat.den_divInt, if_neg hb]
  exact Nat.div_le_self _ _
theorem num_eq (q : Rat) : (q.num : Rat) = q * (q.den : Rat) := by
  have h := Rat.num_divInt_den q
  rw [Rat.divInt_eq_div] at h
  have hd : ((q.den : Int) : Rat) ≠ 0 := by
    have := q.den_nz
    intro z
    rw [Rat.intCast_natCast] at z
    exact this (by simpa using z)
  rw [Rat.intCast_natCast] at h hd
  have h2 := Rat.div_mul_cancel (a := (q.num : Rat)) hd
  rw [h] at h2
  exact h2.symm
theorem fr_pos {t b : Int} (hb : 0 < b) : t / ((Int.gcd t b : Nat) : Int) = (Rat.divInt t b).num ∧ b / ((Int.gcd t b : Nat) : Int) = ((Rat.divInt t b).den : Int) := by
  have h1 := fr_num (t := t) (b := b) (by omega)
  have h2 := fr_den (t := t) (b := b) (by omega)
  rw [if_neg (by omega), Int.fdiv_eq_ediv_of_nonneg _ (by omega)] at h1 h2
  exact ⟨h1, h2⟩
theorem eq_divInt {q : Rat} {n m : Int} (hm : m ≠ 0) (h : q * (m : Rat) = (n : Rat)) : q = Rat.divInt n m := by
  rw [Rat.divInt_eq_div, ← h]
  have : (m : Rat) ≠ 0 := by simpa using hm
  exact (Rat.mul_div_cancel this).symm
theorem size_of {q : Rat} {n m : Int} (hm : m ≠ 0) (h : q * (m : Rat) = (n : Rat)) : q.num.natAbs ≤ n.natAbs ∧ q.den ≤ m.natAbs := by
  rw [eq_divInt hm h]
  exact ⟨num_le n hm, den_le n hm⟩
structure Sz (N : Nat) (q : Rat) : Prop where
  n : q.num.natAbs ≤ N
  d : q.den ≤ N
theorem Sz.mono {M N : Nat} {q : Rat} (h : Sz M q) (l : M ≤ N) : Sz N q := ⟨Nat.le_trans h.n l, Nat.le_trans h.d l⟩
theorem Sz.neg {N : Nat} {q : Rat} (h : Sz N q) : Sz N (-q) := ⟨by show (-q.num).natAbs ≤ N; rw [Int.natAbs_neg]; exact h.n, h.d⟩
theorem sz_cross (a b : Rat) (f : Rat) (n : Int) (h : f * ((a.den : Int) * (b.den : Int) : Int) = (n : Rat)) {M N : Nat} (ha : Sz M a) (hb : Sz N b) (hn : n.natAbs ≤ 2 * (M * N)) : Sz (2 * (M * N)) f := by
  have m0 : (a.den : Int) * (b.den : Int) ≠ 0 := Int.mul_ne_zero (by have := a.den_nz; omega) (by have := b.den_nz; omega)
  obtain ⟨h1, h2⟩ := size_of m0 h
  refine ⟨Nat.le_trans h1 hn, Nat.le_trans h2 ?_⟩
  rw [Int.natAbs_mul]
  have := Nat.mul_le_mul ha.d hb.d
  simp only [Int.natAbs_natCast]
  omega
theorem Sz.add {a b : Rat} {M N : Nat} (ha : Sz M a) (hb : Sz N b) : Sz (2 * (M * N)) (a + b) := by
  refine sz_cross a b _ (a.num * (b.den : Int) + b.num * (a.den : Int)) ?_ ha hb ?_
  · rw [Rat.intCast_mul, Rat.intCast_add, Rat.intCast_mul, Rat.intCast_mul, Rat.intCast_natCast, Rat.intCast_natCast, num_eq a, num_eq b]
    grind
  · have h1 := Nat.mul_le_mul ha.n hb.d
    have h2 := Nat.mul_le_mul hb.n ha.d
    have h3 := Int.natAbs_add_le (a.num * (b.den : Int)) (b.num * (a.den : Int))
    rw [Int.natAbs_mul, Int.natAbs_mul, Int.natAbs_natCast, Int.natAbs_natCast] at h3
    rw [Nat.mul_comm N M] at h2
    omega
theorem Sz.sub {a b : Rat} {M N : Nat} (ha : Sz M a) (hb : Sz N b) : Sz (2 * (M * N)) (a - b) := by
  rw [Rat.sub_eq_add_neg]
  exact ha.add hb.neg
theorem Sz.mul {a b : Rat} {M N : Nat} (ha : Sz M a) (hb : Sz N b) : Sz (2 * (M * N)) (a * b) := by
  refine sz_cross a b _ (a.num * b.num) ?_ ha hb ?_
  · rw [Rat.intCast_mul, Rat.intCast_mul, Rat.intCast_natCast, Rat.intCast_natCast, num_eq a, num_eq b]
    grind
  · have h1 := Nat.mul_le_mul ha.n hb.n
    rw [Int.natAbs_mul]
    omega
end Fm
namespace Fm
theorem den_dvd (t : Int) {b : Int} (hb : b ≠ 0) : (Rat.divInt t b).den ∣ b.natAbs := by
  have h := congrArg Int.natAbs (cross t b hb)
  rw [Int.natAbs_mul, Int.natAbs_mul] at h
  have h2 : (Rat.divInt t b).den ∣ (Rat.divInt t b).num.natAbs * b.natAbs := ⟨t.natAbs, by rw [h, Nat.mul_comm]; simp⟩
  have h3 : Nat.Coprime (Rat.divInt t b).den (Rat.divInt t b).num.natAbs := Nat.Coprime.symm (Rat.divInt t b).reduced
  exact h3.dvd_of_dvd_mul_left h2
theorem den_of {q : Rat} {n : Int} {L : Nat} (hL : L ≠ 0) (h : q * (L : Rat) = (n : Rat)) : q.den ∣ L := by
  have e : q = Rat.divInt n (L : Int) := eq_divInt (by omega) (by rw [Rat.intCast_natCast]; exact h)
  rw [e]
  have := den_dvd n (b := (L : Int)) (by omega)
  simpa using this
theorem top_of {q : Rat} {L : Nat} (h : q.den ∣ L) : q * (L : Rat) = ((q.num * ((L / q.den : Nat) : Int) : Int) : Rat) := by
  obtain ⟨c, rfl⟩ := h
  have hd : 0 < q.den := Nat.pos_of_ne_zero q.den_nz
  rw [Nat.mul_div_cancel_left _ hd, Rat.intCast_mul, num_eq q, Rat.natCast_mul, Rat.intCast_natCast]
  grind
structure Cm (L B : Nat) (q : Rat) : Prop where
  d : q.den ∣ L
  lo : -(B : Rat) ≤ q
  hi : q ≤ (B : Rat)
theorem cast_le {a b : Nat} (h : a ≤ b) : (a : Rat) ≤ (b : Rat) := by
  rw [← Rat.intCast_natCast, ← Rat.intCast_natCast]
  exact Rat.intCast_le_intCast.mpr (by omega)
theorem cast_nn (a : Nat) : (0 : Rat) ≤ (a : Rat) := cast_le (Nat.zero_le a)
theorem Cm.mono {L B L' B' : Nat} {q : Rat} (h : Cm L B q) (hl : L ∣ L') (hb : B ≤ B') : Cm L' B' q := by
  have := cast_le hb
  exact ⟨Nat.dvd_trans h.d hl, by have := h.lo; grind, by have := h.hi; grind⟩
theorem Cm.neg {L B : Nat} {q : Rat} (h : Cm L B q) : Cm L B (-q) := ⟨h.d, by have := h.hi; grind, by have := h.lo; grind⟩
theorem Cm.add {L B C : Nat} {p q : Rat} (hp : Cm L B p) (hq : Cm L C q) : Cm L (B + C) (p + q) := by
  refine ⟨?_, ?_, ?_⟩
  · by_cases hL : L = 0
    · rw [hL]; exact Nat.dvd_zero _
    · refine den_of hL (n := p.num * ((L / p.den : Nat) : Int) + q.num * ((L / q.den : Nat) : Int)) ?_
      rw [Rat.intCast_add, ← top_of hp.d, ← top_of hq.d]
      grind
  · rw [Rat.natCast_add]; have := hp.lo; have := hq.lo; grind
  · rw [Rat.natCast_add]; have := hp.hi; have := hq.hi; grind
theorem Cm.sub {L B C : Nat} {p q : Rat} (hp : Cm L B p) (hq : Cm L C q) : Cm L (B + C) (p - q) := by
  rw [Rat.sub_eq_add_neg]; exact hp.add hq.neg
theorem mul_bd {a b B C : Rat} (h1 : -B ≤ a) (h2 : a ≤ B) (h3 : -C ≤ b) (h4 : b ≤ C) : a * b ≤ B * C ∧ -(B * C) ≤ a * b := by
  have k1 : 0 ≤ (B - a) * (C + b) := Rat.mul_nonneg (by grind) (by grind)
  have k2 : 0 ≤ (B + a) * (C - b) := Rat.mul_nonneg (by grind) (by grind)
  have k3 : 0 ≤ (B - a) * (C - b) := Rat.mul_nonneg (by grind) (by grind)
  have k4 : 0 ≤ (B + a) * (C + b) := Rat.mul_nonneg (by grind) (by grind)
  constructor <;> grind
theorem Cm.mul {L B M C : Nat} {p q : Rat} (hp : Cm L B p) (hq : Cm M C q) : Cm (L * M) (B * C) (p * q) := by
  refine ⟨?_, ?_, ?_⟩
  · by_cases hL : L * M = 0
    · rw [hL]; exact Nat.dvd_zero _
    · refine den_of hL (n := (p.num * ((L / p.den : Nat) : Int)) * (q.num * ((M / q.den : Nat) : Int))) ?_
      rw [Rat.intCast_mul, ← top_of hp.d, ← top_of hq.d, Rat.natCast_mul]
      grind
  · rw [Rat.natCast_mul]; exact (mul_bd hp.lo hp.hi hq.lo hq.hi).2
  · rw [Rat.natCast_mul]; exact (mul_bd hp.lo hp.hi hq.lo hq.hi).1
theorem Cm.int {i : Int} {B : Nat} (h : i.natAbs ≤ B) : Cm 1 B (i : Rat) := by
  refine ⟨by simp, ?_, ?_⟩
  · rw [← Rat.intCast_natCast, ← Rat.intCast_neg]; exact Rat.intCast_le_intCast.mpr (by omega)
  · rw [← Rat.intCast_natCast]; exact Rat.intCast_le_intCast.mpr (by omega)
theorem Cm.zero {L B : Nat} : Cm L B 0 := by
  have := cast_nn B
  exact ⟨by simp, by grind, this⟩
theorem Cm.num {L B : Nat} {q : Rat} (h : Cm L B q) : q.num.natAbs ≤ B * q.den := by
  have hd : (0 : Rat) ≤ (q.den : Rat) := cast_nn _
  have e := num_eq q
  have h1 : (q.num : Rat) ≤ ((B * q.den : Nat) : Rat) := by
    rw [e, Rat.natCast_mul]; exact Rat.mul_le_mul_of_nonneg_right h.hi hd
  have h2 : -((B * q.den : Nat) : Rat) ≤ (q.num : Rat) := by
    rw [e, Rat.natCast_mul, ← Rat.neg_mul]; exact Rat.mul_le_mul_of_nonneg_right h.lo hd
  rw [← Rat.intCast_natCast] at h1 h2
  rw [← Rat.intCast_neg] at h2
  have h3 := Rat.intCast_le_intCast.mp h1
  have h4 := Rat.intCast_le_intCast.mp h2
  omega
theorem Cm.den {L B : Nat} {q : Rat} (h : Cm L B q) (hL : 0 < L) : q.den ≤ L := Nat.le_of_dvd hL h.d
theorem Cm.sz {L B : Nat} {q : Rat} (h : Cm L B q) (hL : 0 < L) : Sz ((B + 1) * L) q := by
  have h1 := h.num
  have h2 := h.den hL
  have h3 : B * q.den ≤ B * L := Nat.mul_le_mul_left _ h2
  have h4 : (B + 1) * L = B * L + L := by rw [Nat.add_mul, Nat.one_mul]
  exact ⟨by omega, by omega⟩
theorem Cm.of {q : Rat} {L B : Nat} (hd : q.den ∣ L) (hn : q.num.natAbs ≤ B * q.den) : Cm L B q := by
  have hp : (0 : Rat) < (q.den : Rat) := by
    rw [← Rat.intCast_natCast]; exact Rat.intCast_pos.mpr (by have := q.den_nz; omega)
  have e := num_eq q
  have h1 : (q.num : Rat) ≤ (B : Rat) * (q.den : Rat) := by
    rw [← Rat.natCast_mul, ← Rat.intCast_natCast]; exact Rat.intCast_le_intCast.mpr (by omega)
  have h2 : -((B : Rat) * (q.den : Rat)) ≤ (q.num : Rat) := by
    rw [← Rat.natCast_mul, ← Rat.intCast_natCast, ← Rat.intCast_neg]; exact Rat.intCast_le_intCast.mpr (by omega)
  rw [e] at h1 h2
  refine ⟨hd, ?_, ?_⟩
  · refine Rat.not_lt.mp fun c => ?_
    have := Rat.mul_lt_mul_of_pos_right c hp
    rw [Rat.neg_mul] at this
    grind
  · refine Rat.not_lt.mp fun c => ?_
    have := Rat.mul_lt_mul_of_pos_right c hp
    grind
theorem Cm.div {t : Int} {b L B : Nat} (hb : 0 < b) (hd : b ∣ L) (ht : t.natAbs ≤ B * b) : Cm L B (Rat.divInt t (b : Int)) := by
  have h1 := den_dvd t (b := (b : Int)) (by omega)
  have hc := cross t (b : Int) (by omega)
  refine Cm.of (Nat.dvd_trans (by simpa using h1) hd) ?_
  have h2 : (Rat.divInt t (b : Int)).num.natAbs * b = t.natAbs * (Rat.divInt t (b : Int)).den := by
    have := congrArg Int.natAbs hc
    rw [Int.natAbs_mul, Int.natAbs_mul] at this
    simpa using this
  refine Nat.le_of_mul_le_mul_right ?_ hb
  rw [h2]
  calc t.natAbs * (Rat.divInt t (b : Int)).den ≤ (B * b) * (Rat.divInt t (b : Int)).den := Nat.mul_le_mul_right _ ht
    _ = B * (Rat.divInt t (b : Int)).den * b := by rw [Nat.mul_assoc, Nat.mul_comm b, Nat.mul_assoc]
noncomputable def Dg (n : Nat) (q : Rat) : Prop := Sz (10 ^ n) q
theorem ten_le {a b : Nat} (h : a ≤ b) : 10 ^ a ≤ 10 ^ b := Nat.pow_le_pow_right (by decide) h
theorem ten_two (a b : Nat) : 2 * (10 ^ a * 10 ^ b) ≤ 10 ^ (a + b + 1) := by
  rw [Nat.pow_succ, Nat.pow_add]
  omega
theorem Dg.mono {a b : Nat} {q : Rat} (h : Dg a q) (l : a ≤ b) : Dg b q := Sz.mono h (ten_le l)
theorem Dg.add {a b : Nat} {p q : Rat} (hp : Dg a p) (hq : Dg b q) : Dg (a + b + 1) (p + q) := (Sz.add hp hq).mono (ten_two a b)
theorem Dg.sub {a b : Nat} {p q : Rat} (hp : Dg a p) (hq : Dg b q) : Dg (a + b + 1) (p - q) := (Sz.sub hp hq).mono (ten_two a b)
theorem Dg.mul {a b : Nat} {p q : Rat} (hp : Dg a p) (hq : Dg b q) : Dg (a + b + 1) (p * q) := (Sz.mul hp hq).mono (ten_two a b)
theorem Dg.neg {a : Nat} {p : Rat} (hp : Dg a p) : Dg a (-p) := Sz.neg hp
theorem Dg.of {n : Nat} {t b : Int} (hb : b ≠ 0) (h1 : t.natAbs ≤ 10 ^ n) (h2 : b.natAbs ≤ 10 ^ n) : Dg n (Rat.divInt t b) := ⟨Nat.le_trans (num_le t hb) h1, Nat.le_trans (den_le t hb) h2⟩
theorem Dg.one {n : Nat} : Dg n 1 := ⟨Nat.pow_pos (n := n) (by decide), Nat.pow_pos (n := n) (by decide)⟩
theorem Dg.int {n : Nat} {i : Int} (h : i.natAbs ≤ 10 ^ n) : Dg n (i : Rat) := ⟨h, Nat.pow_pos (n := n) (by decide)⟩
noncomputable def absR (q : Rat) : Rat := ⟨(q.num.natAbs : Int), q.den, q.den_nz, by simpa using q.reduced⟩
theorem absR_num (q : Rat) : (absR q).num = ((q.num.natAbs : Nat) : Int) := rfl
theorem absR_pos {q : Rat} (h : 0 ≤ q) : absR q = q := by
  have := Rat.num_nonneg.mpr h
  exact Rat.ext (by rw [absR_num]; omega) rfl
theorem absR_neg {q : Rat} (h : q ≤ 0) : absR q = -q := by
  have h1 : 0 ≤ -q := by grind
  have := Rat.num_nonneg.mpr h1
  exact Rat.ext (by rw [absR_num]; show _ = -q.num; have e : (-q).num = -q.num := rfl; omega) rfl
theorem absR_nn (q : Rat) : 0 ≤ absR q := Rat.num_nonneg.mp (by rw [absR_num]; omega)
theorem absR_cases (q : Rat) : (0 ≤ q ∧ absR q = q) ∨ (q ≤ 0 ∧ absR q = -q) := by
  rcases Rat.le_total (a := 0) (b := q) with h | h
  · exact .inl ⟨h, absR_pos h⟩
  · exact .inr ⟨h, absR_neg h⟩
theorem Cm.abs {L B : Nat} {q : Rat} (h : Cm L B q) : Cm L B (absR q) := by
  rcases absR_cases q with ⟨_, e⟩ | ⟨_, e⟩
  · rw [e]; exact h
  · rw [e]; exact h.neg
theorem Dg.abs {n : Nat} {q : Rat} (h : Dg n q) : Dg n (absR q) := ⟨by rw [absR_num]; exact h.n, h.d⟩
theorem Cm.dg {L B l b : Nat} {q : Rat} (h : Cm L B q) (hL : 0 < L) (h1 : L ≤ 10 ^ l) (h2 : B ≤ 10 ^ b) : Dg (b + l + 1) q := by
  refine (h.sz hL).mono ?_
  have e : (B + 1) * L ≤ (10 ^ b + 10 ^ b) * 10 ^ l := Nat.mul_le_mul (by have := Nat.pow_pos (n := b) (show 0 < 10 by decide); omega) h1
  have := ten_two b l
  rw [Nat.add_mul (10 ^ b)] at e
  omega
end Fm
namespace Dl
open PySem PySem.Spec PyProof.Rows L2 Lx
inductive Sl where
  | dat (d : PyData)
  | own (ds : List PyData)
    | exc (C : Addr)
    | two (xs ys : List PyData)
    | fz (as : List Addr) (d : PyData)
noncomputable abbrev DEn := List (Option Sl)
noncomputable def slot : DEn → Nat → Option Sl
  | [], _ => none
  | x :: _, 0 => x
  | _ :: xs, n + 1 => slot xs n
noncomputable def put (s : Option Sl) : Nat → DEn → DEn
  | _, [] => []
  | 0, _ :: xs => s :: xs
  | n + 1, x :: xs => x :: put s n xs
theorem slot_put (s : Option Sl) : ∀ (i j : Nat) (δ : DEn), slot (put s i δ) j = if j = i ∧ i < δ.length then s else slot δ j
  | i, j, [] => by cases i <;> simp [put, slot]
  | 0, 0, x :: xs => by simp [put, slot]
  | 0, j + 1, x :: xs => by simp [put, slot]
  | i + 1, 0, x :: xs => by simp [put, slot]
  | i + 1, j + 1, x :: xs => by
    have := slot_put s i j xs
    simp only [put, slot, this, List.length_cons]
    simp
theorem put_len (s : Option Sl) : ∀ (i : Nat) (δ : DEn), (put s i δ).length = δ.length
  | i, [] => by cases i <;> rfl
  | 0, x :: xs => rfl
  | i + 1, x :: xs => by simp [put, put_len s i xs]
theorem sqT_same {K : PySem.W.Frag} {H H' : Hp} {a : Addr} {xs : List V} (e : Same H H') (h : SqT K H a xs) : SqT K H' a xs := by
  rcases h with (h | ⟨o, h⟩) | h
  · exact .inl (.inl (e _ _ h))
  · exact .inl (.inr ⟨o, e _ _ h⟩)
  · exact .inr h
mutual
theorem dv_same {K : PySem.W.Frag} {H H' : Hp} (s : Same H H') : ∀ {x : V} {d : PyData}, DV K H x d → DV K H' x d
  | _, _, .non => .non
  | _, _, .bl b => .bl b
  | _, _, .int i => .int i
  | _, _, .str x => .str x
  | _, _, .tup h hs => .tup (sqT_same s h) (dvs_same s hs)
  | _, _, .lst h hs => .lst (s.seq h) (dvs_same s hs)
  | _, _, .dct h => .dct (s _ _ h)
theorem dvs_same {K : PySem.W.Frag} {H H' : Hp} (s : Same H H') : ∀ {xs : List V} {ds : List PyData}, DVs K H xs ds → DVs K H' xs ds
  | _, _, .nil => .nil
  | _, _, .cons h t => .cons (dv_same s h) (dvs_same s t)
end
mutual
noncomputable def flatD : PyData → Bool
  | .none => true
  | .bool _ => true
  | .int _ => true
  | .str _ => true
  | .list _ => false
  | .tuple ds => flatDs ds
  | .dict _ => true
noncomputable def flatDs : List PyData → Bool
  | [] => true
  | d :: ds => flatD d && flatDs ds
end
noncomputable def Sub (G H : Hp) : Prop := ∀ b, G b = H b ∨ (G b = none ∧ ∃ xs, H b = some (.lst xs))
theorem Sub.same {G H : Hp} (s : Sub G H) : Same G H := fun b o e => by
  rcases s b with h | ⟨h, _⟩
  · rw [← h]; exact e
  · rw [h] at e; cases e
theorem Sub.refl (H : Hp) : Sub H H := fun _ => .inl rfl
theorem Sub.other {G H : Hp} (s : Sub G H) {b : Addr} {o : HO} (h : H b = some o) (n : ∀ xs, o ≠ .lst xs) : G b = some o := by
  rcases s b with e | ⟨_, xs, e⟩
  · rw [e]; exact h
  · rw [h] at e; cases e; exact absurd rfl (n xs)
mutual
theorem dv_flat {K : PySem.W.Frag} {G H : Hp} (s : ∀ b o, H b = some o → (∀ xs, o ≠ .lst xs) → G b = some o) : ∀ {x : V} {d : PyData}, DV K H x d → flatD d = true → DV K G x d
  | _, _, .non, _ => .non
  | _, _, .bl b, _ => .bl b
  | _, _, .int i, _ => .int i
  | _, _, .str x, _ => .str x
  | _, _, .tup h hs, f => .tup (by
      rcases h with (h | ⟨o, h⟩) | h
      · exact .inl (.inl (s _ _ h (by intro xs z; cases z)))
      · exact .inl (.inr ⟨o, s _ _ h (by intro xs z; cases z)⟩)
      · exact .inr h) (dvs_flat s hs f)
  | _, _, .lst _ _, f => by cases f
  | _, _, .dct h, _ => .dct (s _ _ h (by intro xs z; cases z))
theorem dvs_flat {K : PySem.W.Frag} {G H : Hp} (s : ∀ b o, H b = some o → (∀ xs, o ≠ .lst xs) → G b = some o) : ∀ {xs : List V} {ds : List PyData}, DVs K H xs ds → flatDs ds = true → DVs K G xs ds
  | _, _, .nil, _ => .nil
  | _, _, .cons h t, f => by
    simp only [flatDs, Bool.and_eq_true] at f
    exact .cons (dv_flat s h f.1) (dvs_flat s t f.2)
end
end Dl
namespace Lx
open PySem PySem.Spec PyProof.Rows L2
theorem DVs.len {K : PySem.W.Frag} {H : Hp} : ∀ {xs : List V} {ds : List PyData}, DVs K H xs ds → xs.length = ds.length
  | _, _, .nil => rfl
  | _, _, .cons _ t => congrArg (· + 1) (DVs.len t)
theorem DVs.at {K : PySem.W.Frag} {H : Hp} : ∀ {xs : List V} {ds : List PyData} {i : Nat} {d : PyData}, DVs K H xs ds → ds[i]? = some d → ∃ x, xs[i]? = some x ∧ DV K H x d
  | _, _, _, _, .nil, e => by simp at e
  | _, _, 0, _, .cons h _, e => by
    simp at e
    subst e
    exact ⟨_, rfl, h⟩
  | _, _, i + 1, _, .cons _ t, e => by
    obtain ⟨x, h1, h2⟩ := DVs.at (i := i) t (by simpa using e)
    exact ⟨x, by simpa using h1, h2⟩
theorem DVs.at' {K : PySem.W.Frag} {H : Hp} {xs : List V} {ds : List PyData} {i : Nat} {x : V} (h : DVs K H xs ds) (e : xs[i]? = some x) : ∃ d, ds[i]? = some d ∧ DV K H x d := by
  have hi : i < ds.length := by rw [← h.len]; exact (List.getElem?_eq_some_iff.mp e).1
  obtain ⟨y, h1, h2⟩ := h.at (List.getElem?_eq_getElem hi)
  rw [e] at h1; cases h1
  exact ⟨_, List.getElem?_eq_getElem hi, h2⟩
theorem DVs.append {K : PySem.W.Frag} {H : Hp} : ∀ {xs ys : List V} {ds es : List PyData}, DVs K H xs ds → DVs K H ys es → DVs K H (xs ++ ys) (ds ++ es)
  | _, _, _, _, .nil, h => h
  | _, _, _, _, .cons r t, h => .cons r (DVs.append t h)
theorem DVs.take {K : PySem.W.Frag} {H : Hp} : ∀ {xs : List V} {ds : List PyData} (n : Nat), DVs K H xs ds → DVs K H (xs.take n) (ds.take n)
  | _, _, 0, _ => by simp only [List.take_zero]; exact .nil
  | _, _, _ + 1, .nil => .nil
  | _, _, n + 1, .cons r t => .cons r (DVs.take n t)
theorem DVs.drop {K : PySem.W.Frag} {H : Hp} : ∀ {xs : List V} {ds : List PyData} (n : Nat), DVs K H xs ds → DVs K H (xs.drop n) (ds.drop n)
  | _, _, 0, h => by simp only [List.drop_zero]; exact h
  | _, _, _ + 1, .nil => .nil
  | _, _, n + 1, .cons _ t => DVs.drop n t
theorem DVs.set {K : PySem.W.Frag} {H : Hp} {x : V} {d : PyData} (r : DV K H x d) : ∀ {xs : List V} {ds : List PyData} (i : Nat), DVs K H xs ds → DVs K H (xs.set i x) (ds.set i d)
  | _, _, _, .nil => .nil
  | _, _, 0, .cons _ t => .cons r t
  | _, _, i + 1, .cons q t => .cons q (DVs.set r i t)
end Lx
namespace Dl
open PySem PySem.Spec PyProof.Rows L2 Lx
inductive Rws (K : PySem.W.Frag) (G H : Hp) : List Addr → List (List PyData) → Prop
  | nil : Rws K G H [] []
  | cons {b : Addr} {bs : List Addr} {vs : List V} {ds : List PyData} {dss : List (List PyData)} : H b = some (.lst vs) → DVs K G vs ds → Rws K G H bs dss → Rws K G H (b :: bs) (ds :: dss)
theorem Rws.mono {K : PySem.W.Frag} {G H G' H' : Hp} (g : Same G G') (h : Same H H') : ∀ {bs : List Addr} {dss : List (List PyData)}, Rws K G H bs dss → Rws K G' H' bs dss
  | _, _, .nil => .nil
  | _, _, .cons h1 h2 r => .cons (h _ _ h1) (dvs_same g h2) (r.mono g h)
theorem Rws.dv {K : PySem.W.Frag} {G H : Hp} (Gf : Hp) (g : Same G Gf) : ∀ {bs : List Addr} {dss : List (List PyData)}, (∀ c ∈ bs, Gf c = H c) → Rws K G H bs dss → DVs K Gf (bs.map V.ref) (dss.map PyData.list)
  | _, _, _, .nil => .nil
  | _, _, f, .cons h1 h2 r => .cons (.lst (SqL.of (by rw [f _ List.mem_cons_self]; exact h1)) (dvs_same g h2)) (r.dv Gf g fun c hc => f c (List.mem_cons_of_mem _ hc))
inductive FzIs (K : PySem.W.Frag) (G : Hp) : V → List Addr → PyData → Prop
  | pair {t a b : Addr} {vs ws : List V} {xs ys : List PyData} : SqT K G t [.ref a, .ref b] → a ≠ b → G a = some (.lst vs) → G b = some (.lst ws) → DVs K G vs xs → DVs K G ws ys → FzIs K G (.ref t) [a, b] (.tuple [.list xs, .list ys])
  | one {a : Addr} {vs : List V} {ds : List PyData} : G a = some (.lst vs) → DVs K G vs ds → FzIs K G (.ref a) [a] (.list ds)
  | gr {a : Addr} {cs : List Addr} {dss : List (List PyData)} : G a = some (.lst (cs.map V.ref)) → (a :: cs).Nodup → Rws K G G cs dss → FzIs K G (.ref a) (a :: a :: cs) (.list (dss.map PyData.list))
  | tg {t p a : Addr} {cs : List Addr} {vs : List V} {xs : List PyData} {dss : List (List PyData)} : SqT K G t [.ref p, .ref a] → (p :: a :: cs).Nodup → G p = some (.lst vs) → DVs K G vs xs → G a = some (.lst (cs.map V.ref)) → Rws K G G cs dss → FzIs K G (.ref t) (p :: p :: a :: cs) (.tuple [.list xs, .list (dss.map PyData.list)])
theorem FzIs.same {K : PySem.W.Frag} {G G' : Hp} {v : V} {as : List Addr} {d : PyData} (s : Same G G') (h : FzIs K G v as d) : FzIs K G' v as d := by
  cases h with
  | pair h1 h2 h3 h4 h5 h6 => exact .pair (sqT_same s h1) h2 (s _ _ h3) (s _ _ h4) (dvs_same s h5) (dvs_same s h6)
  | one h1 h2 => exact .one (s _ _ h1) (dvs_same s h2)
  | gr h1 h2 h3 => exact .gr (s _ _ h1) h2 (h3.mono s s)
  | tg h1 h2 h3 h4 h5 h6 => exact .tg (sqT_same s h1) h2 (s _ _ h3) (dvs_same s h4) (s _ _ h5) (h6.mono s s)
theorem FzIs.dv {K : PySem.W.Frag} {G : Hp} {v : V} {as : List Addr} {d : PyData} (h : FzIs K G v as d) : DV K G v d := by
  cases h with
  | pair h1 h2 h3 h4 h5 h6 => exact .tup h1 (.cons (.lst (SqL.of h3) h5) (.cons (.lst (SqL.of h4) h6) .nil))
  | one h1 h2 => exact .lst (SqL.of h1) h2
  | gr h1 h2 h3 => exact .lst (SqL.of h1) (h3.dv G (Same.refl _) fun _ _ => rfl)
  | tg h1 h2 h3 h4 h5 h6 => exact .tup h1 (.cons (.lst (SqL.of h3) h4) (.cons (.lst (SqL.of h5) (h6.dv G (Same.refl _) fun _ _ => rfl)) .nil))
noncomputable def SlIs (K : PySem.W.Frag) (G H : Hp) (v : V) : Sl → Prop
  | .dat d => DV K G v d
  | .own ds => ∃ a vs, v = .ref a ∧ G a = none ∧ H a = some (.lst vs) ∧ DVs K G vs ds
  | .exc C => ∃ x, v = .ref x ∧ G x = some (.ext (IsExc x C))
  | .two _ _ => False
  | .fz as d => FzIs K G v as d
structure Sees (K : PySem.W.Frag) (H₀ G : Hp) (δ : DEn) (σ : L2.St) (H : Hp) : Prop where
  old : Same H₀ G
  sub : Sub G H
  len : δ.length ≤ σ.length
  has : ∀ i s, slot δ i = some s → ∃ v, σ[i]? = some (some v) ∧ SlIs K G H v s
  sep : ∀ i j xs ys a, slot δ i = some (.own xs) → slot δ j = some (.own ys) → σ[i]? = some (some (.ref a)) → σ[j]? = some (some (.ref a)) → i = j
structure Ext (G H G' H' : Hp) : Prop where
  g : Same G G'
  h : Same H H'
  s : Sub G' H'
  n : ∀ b o, G' b = some o → G b = some o ∨ H b = none
theorem Ext.refl {G H : Hp} (s : Sub G H) : Ext G H G H := ⟨Same.refl _, Same.refl _, s, fun _ _ h => .inl h⟩
theorem Ext.trans {G H G1 H1 G2 H2 : Hp} (a : Ext G H G1 H1) (b : Ext G1 H1 G2 H2) : Ext G H G2 H2 :=
  ⟨a.g.trans b.g, a.h.trans b.h, b.s, fun c o h => by
    rcases b.n c o h with z | z
    · exact a.n c o z
    · exact .inr (a.h.free z)⟩
theorem Ext.keep {G H G' H' : Hp} (e : Ext G H G' H') {a : Addr} (hg : G a = none) {o : HO} (hh : H a = some o) : G' a = none := by
  cases q : G' a with
  | none => rfl
  | some u =>
    rcases e.n a u q with z | z
    · rw [hg] at z; cases z
    · rw [hh] at z; cases z
section
variable {K : PySem.W.Frag} {H₀ G H G' H' : Hp} {δ : DEn} {σ : L2.St}
theorem SlIs.ext {v : V} {s : Sl} (e : Ext G H G' H') (h : SlIs K G H v s) : SlIs K G' H' v s := by
  cases s with
  | dat d => exact dv_same e.g h
  | own ds =>
    obtain ⟨a, vs, rfl, hg, hh, hd⟩ := h
    exact ⟨a, vs, rfl, e.keep hg hh, e.h _ _ hh, dvs_same e.g hd⟩
  | two xs ys => exact h.elim
  | fz as d => exact FzIs.same e.g h
  | exc C =>
    obtain ⟨x, rfl, hx⟩ := h
    exact ⟨x, rfl, e.g _ _ hx⟩
theorem Sees.ext (S : Sees K H₀ G δ σ H) (e : Ext G H G' H') : Sees K H₀ G' δ σ H' :=
  ⟨S.old.trans e.g, e.s, S.len, fun i s h => by
    obtain ⟨v, h1, h2⟩ := S.has i s h
    exact ⟨v, h1, h2.ext e⟩, S.sep⟩
theorem Sees.refl (S : Sees K H₀ G δ σ H) : Ext G H G H := .refl S.sub
theorem Sees.oldH (S : Sees K H₀ G δ σ H) : Same H₀ H := S.old.trans S.sub.same
theorem slot_lt : ∀ {δ : DEn} {i : Nat} {s : Sl}, slot δ i = some s → i < δ.length
  | [], _, _, h => by cases h
  | _ :: _, 0, _, _ => Nat.zero_lt_succ _
  | _ :: xs, i + 1, s, h => Nat.succ_lt_succ (slot_lt (δ := xs) (i := i) (s := s) h)
theorem Sees.setS {v : V} {s : Sl} (S : Sees K H₀ G δ σ H) (i : Nat) (h : SlIs K G H v s) (hs : ∀ ds j es a, s = .own ds → slot δ j = some (.own es) → σ[j]? = some (some (.ref a)) → v ≠ .ref a) : Sees K H₀ G (put (some s) i δ) (σ.set i (some v)) H := by
  have look : ∀ j u, slot (put (some s) i δ) j = some u → (j = i ∧ u = s ∧ (σ.set i (some v))[j]? = some (some v)) ∨ (j ≠ i ∧ slot δ j = some u ∧ (σ.set i (some v))[j]? = σ[j]?) := fun j u hj => by
    rw [slot_put] at hj
    split at hj
    · rename_i hc
      obtain ⟨rfl, hl⟩ := hc
      cases hj
      exact .inl ⟨rfl, rfl, by rw [List.getElem?_set_self (Nat.lt_of_lt_of_le hl S.len)]⟩
    · rename_i hc
      have hji : j ≠ i := fun z => hc ⟨z, by rw [← z]; exact slot_lt hj⟩
      exact .inr ⟨hji, hj, by rw [List.getElem?_set_ne (Ne.symm hji)]⟩
  refine ⟨S.old, S.sub, by rw [put_len, List.length_set]; exact S.len, fun j u hj => ?_, fun j k xs ys a hj hk e1 e2 => ?_⟩
  · rcases look j u hj with ⟨rfl, rfl, e⟩ | ⟨_, h1, e⟩
    · exact ⟨v, e, h⟩
    · rw [e]; exact S.has j u h1
  · rcases look j _ hj with ⟨rfl, z1, e3⟩ | ⟨n1, h1, e3⟩ <;> rcases look k _ hk with ⟨rfl, z2, e4⟩ | ⟨n2, h2, e4⟩
    · rfl
    · rw [e3] at e1; rw [e4] at e2
      cases e1
      exact absurd rfl (hs xs k ys a z1.symm h2 e2)
    · rw [e3] at e1; rw [e4] at e2
      cases e2
      exact absurd rfl (hs ys j xs a z2.symm h1 e1)
    · rw [e3] at e1; rw [e4] at e2
      exact S.sep j k xs ys a h1 h2 e1 e2
theorem Sees.setD {v : V} {d : PyData} (S : Sees K H₀ G δ σ H) (i : Nat) (h : DV K G v d) : Sees K H₀ G (put (some (.dat d)) i δ) (σ.set i (some v)) H :=
  S.setS i (s := .dat d) h fun _ _ _ _ z => nomatch z
theorem Sees.ownAt (S : Sees K H₀ G δ σ H) {i : Nat} {ds : List PyData} (h : slot δ i = some (.own ds)) : ∃ a vs, σ[i]? = some (some (.ref a)) ∧ G a = none ∧ H a = some (.lst vs) ∧ DVs K G vs ds := by
  obtain ⟨v, h1, a, vs, rfl, h2, h3, h4⟩ := S.has i _ h
  exact ⟨a, vs, h1, h2, h3, h4⟩
theorem Sees.setO {a : Addr} {vs : List V} {ds : List PyData} (S : Sees K H₀ G δ σ H) (e : Ext G H G' H') (i : Nat) (hn : H a = none) (hg : G' a = none) (hh : H' a = some (.lst vs)) (hd : DVs K G' vs ds) :
    Sees K H₀ G' (put (some (.own ds)) i δ) (σ.set i (some (.ref a))) H' :=
  (S.ext e).setS i (s := .own ds) ⟨a, vs, rfl, hg, hh, hd⟩ fun _ j es b _ h1 h2 z => by
    cases z
    obtain ⟨c, ws, q1, q2, q3, q4⟩ := S.ownAt h1
    rw [h2] at q1
    cases q1
    rw [hn] at q3; cases q3
theorem Sees.updO {i : Nat} {a : Addr} {ds es : List PyData} {vs : List V} (S : Sees K H₀ G δ σ H) (h : slot δ i = some (.own ds)) (ha : σ[i]? = some (some (.ref a))) (hd : DVs K G vs es) :
    Sees K H₀ G (put (some (.own es)) i δ) σ (upd H a (.lst vs)) := by
  obtain ⟨b, ws, q1, q2, q3, q4⟩ := S.ownAt h
  rw [ha] at q1
  cases q1
  have look : ∀ j u, slot (put (some (.own es)) i δ) j = some u → (j = i ∧ u = .own es) ∨ (j ≠ i ∧ slot δ j = some u) := fun j u hj => by
    rw [slot_put] at hj
    split at hj
    · rename_i hc
      cases hj
      exact .inl ⟨hc.1, rfl⟩
    · rename_i hc
      exact .inr ⟨fun z => hc ⟨z, by rw [← z]; exact slot_lt hj⟩, hj⟩
  refine ⟨S.old, fun c => ?_, by rw [put_len]; exact S.len, fun j u hj => ?_, fun j k xs ys c hj hk e1 e2 => ?_⟩
  · by_cases z : c = a
    · subst z
      exact .inr ⟨q2, vs, upd_same⟩
    · rw [upd_ne z]; exact S.sub c
  · rcases look j u hj with ⟨rfl, rfl⟩ | ⟨n1, h1⟩
    · exact ⟨_, ha, a, vs, rfl, q2, upd_same, hd⟩
    · obtain ⟨v, h2, h3⟩ := S.has j u h1
      refine ⟨v, h2, ?_⟩
      cases u with
      | dat d => exact h3
      | two xs ys => exact h3.elim
      | fz as d => exact h3
      | exc C => exact h3
      | own xs =>
        obtain ⟨c, ws, rfl, p1, p2, p3⟩ := h3
        refine ⟨c, ws, rfl, p1, ?_, p3⟩
        rw [upd_ne (fun z => ?_)]
        · exact p2
        · subst z
          exact n1 (S.sep j i xs ds c h1 h h2 ha)
  · rcases look j _ hj with ⟨rfl, _⟩ | ⟨n1, h1⟩ <;> rcases look k _ hk with ⟨rfl, _⟩ | ⟨n2, h2⟩
    · rfl
    · exact S.sep j k ds ys c h h2 e1 e2
    · exact S.sep j k xs ds c h1 h e1 e2
    · exact S.sep j k xs ys c h1 h2 e1 e2
theorem Sees.frz {i : Nat} {ds : List PyData} (S : Sees K H₀ G δ σ H) (h : slot δ i = some (.own ds)) : ∃ G', Same G G' ∧ Sees K H₀ G' (put (some (.dat (.list ds))) i δ) σ H := by
  obtain ⟨a, vs, q1, q2, q3, q4⟩ := S.ownAt h
  have sg : Same G (upd G a (.lst vs)) := fun b o e => by rw [upd_ne (ne_of_none e q2)]; exact e
  refine ⟨upd G a (.lst vs), sg, S.old.trans sg, fun b => ?_, by rw [put_len]; exact S.len, fun j u hj => ?_, fun j k xs ys c hj hk e1 e2 => ?_⟩
  · by_cases z : b = a
    · subst z
      exact .inl (by rw [upd_same, q3])
    · rw [upd_ne z]; exact S.sub b
  · rw [slot_put] at hj
    split at hj
    · rename_i hc
      cases hj
      exact ⟨_, by rw [hc.1]; exact q1, .lst (SqL.of upd_same) (dvs_same sg q4)⟩
    · rename_i hc
      have hji : j ≠ i := fun z => hc ⟨z, by rw [← z]; exact slot_lt hj⟩
      obtain ⟨v, h2, h3⟩ := S.has j u hj
      refine ⟨v, h2, ?_⟩
      cases u with
      | dat d => exact dv_same sg h3
      | two xs ys => exact h3.elim
      | fz as d => exact FzIs.same sg h3
      | exc C =>
        obtain ⟨x, rfl, hx⟩ := h3
        exact ⟨x, rfl, sg _ _ hx⟩
      | own xs =>
        obtain ⟨c, ws, rfl, p1, p2, p3⟩ := h3
        refine ⟨c, ws, rfl, ?_, p2, dvs_same sg p3⟩
        rw [upd_ne (fun z => ?_)]
        · exact p1
        · subst z
          exact hji (S.sep j i xs ds c hj h h2 q1)
  · have look : ∀ j u, slot (put (some (.dat (.list ds))) i δ) j = some (.own u) → slot δ j = some (.own u) := fun j u hj => by
      rw [slot_put] at hj
      split at hj
      · cases hj
      · exact hj
    exact S.sep j k xs ys c (look _ _ hj) (look _ _ hk) e1 e2
end
noncomputable abbrev DX := Addr → Prop
noncomputable abbrev DE := DX → DEn → (PyData → Prop) → Prop
noncomputable abbrev DL := DX → DEn → (List PyData → Prop) → Prop
noncomputable abbrev DT := DX → DEn → (Bool → Prop) → Prop
noncomputable def ExOk (H₀ : Hp) (E : XK) (ex : DX) : Prop := ∀ C H', Same H₀ H' → ex C → E (.ref C) none H'
section
variable (K : PySem.W.Frag) (H₀ : Hp) (E : XK)
noncomputable def EvD (te : TE) (de : DE) : Prop := ∀ ex δ σ G H Qd Q, ExOk H₀ E ex → Sees K H₀ G δ σ H → de ex δ Qd → (∀ v d G' H', Ext G H G' H' → DV K G' v d → Qd d → Q v H') → te σ H Q
noncomputable def BvD (te : TE) (de : DE) : Prop := ∀ ex δ σ G H Qd Q, ExOk H₀ E ex → Sees K H₀ G δ σ H → de ex δ Qd → (∀ v d G' H', Ext G H G' H' → DV K H' v d → Qd d → Q v H') → te σ H Q
noncomputable def LvD (te : TE) (dl : DL) : Prop := ∀ ex δ σ G H Qd Q, ExOk H₀ E ex → Sees K H₀ G δ σ H → dl ex δ Qd → (∀ a vs ds G' H', Ext G H G' H' → SqL K H' a vs → DVs K G' vs ds → Qd ds → Q (.ref a) H') → te σ H Q
noncomputable def OvD (te : TE) (dl : DL) : Prop := ∀ ex δ σ G H Qd Q, ExOk H₀ E ex → Sees K H₀ G δ σ H → dl ex δ Qd → (∀ a vs ds G' H', Ext G H G' H' → H a = none → G' a = none → H' a = some (.lst vs) → DVs K G' vs ds → Qd ds → Q (.ref a) H') → te σ H Q
noncomputable def TvD (tt : TT) (dt : DT) : Prop := ∀ ex δ σ G H Qd Q, ExOk H₀ E ex → Sees K H₀ G δ σ H → dt ex δ Qd → (∀ b G' H', Ext G H G' H' → Qd b → Q b H') → tt σ H Q
noncomputable def AvD (ta : TA) (dl : DL) : Prop := ∀ ex δ σ G H Qd Q, ExOk H₀ E ex → Sees K H₀ G δ σ H → dl ex δ Qd → (∀ vs ds G' H', Ext G H G' H' → DVs K H' vs ds → Qd ds → Q vs H') → ta σ H Q
noncomputable def AvE (ta : TA) (n : Nat) (dl : DL) : Prop := ∀ ex δ σ G H Qd Q, ExOk H₀ E ex → Sees K H₀ G δ σ H → dl ex δ Qd → (∀ vs ds G' H', Ext G H G' H' → DVs K G' vs ds → ds.length = n → Qd ds → Q vs H') → ta σ H Q
end
noncomputable def dVar (i : Nat) (_ex : DX) (δ : DEn) (Q : PyData → Prop) : Prop := match slot δ i with
  | some (.dat d) => Q d
  | _ => False
noncomputable def dBVar (i : Nat) (_ex : DX) (δ : DEn) (Q : PyData → Prop) : Prop := match slot δ i with
  | some (.dat d) => Q d
  | some (.own ds) => Q (.list ds)
  | _ => False
noncomputable def dLVar (i : Nat) (_ex : DX) (δ : DEn) (Q : List PyData → Prop) : Prop := match slot δ i with
  | some (.dat (.list ds)) => Q ds
  | some (.own ds) => Q ds
  | _ => False
noncomputable def dC (d : PyData) (_ex : DX) (_δ : DEn) (Q : PyData → Prop) : Prop := Q d
noncomputable def dFz (dl : DL) (ex : DX) (δ : DEn) (Q : PyData → Prop) : Prop := dl ex δ fun ds => Q (.list ds)
noncomputable def dAsL (de : DE) (ex : DX) (δ : DEn) (Q : List PyData → Prop) : Prop := de ex δ fun d => match d with
  | .list ds => Q ds
  | _ => False
noncomputable def dNil (_ex : DX) (_δ : DEn) (Q : List PyData → Prop) : Prop := Q []
noncomputable def dCons (de : DE) (dl : DL) (ex : DX) (δ : DEn) (Q : List PyData → Prop) : Prop := de ex δ fun d => dl ex δ fun ds => Q (d :: ds)
section
variable {K : PySem.W.Frag} {H₀ : Hp} {E : XK} {te : TE} {de : DE} {dl : DL} {ta : TA}
theorem bv_ev (h : EvD K H₀ E te de) : BvD K H₀ E te de := fun ex δ σ G H Qd Q hx S q k =>
  h ex δ σ G H Qd Q hx S q fun v d G' H' e hd => k v d G' H' e (dv_same e.s.same hd)
theorem ev_ov (h : OvD K H₀ E te dl) : EvD K H₀ E te (dFz dl) := fun ex δ σ G H Qd Q hx S q k =>
  h ex δ σ G H _ Q hx S q fun a vs ds G' H' e hn hg hh hd qd => by
    have sg : Same G' (upd G' a (.lst vs)) := fun b o z => by rw [upd_ne (ne_of_none z hg)]; exact z
    refine k (.ref a) (.list ds) (upd G' a (.lst vs)) H' ⟨e.g.trans sg, e.h, fun b => ?_, fun b o z => ?_⟩ (.lst (SqL.of upd_same) (dvs_same sg hd)) qd
    · by_cases w : b = a
      · subst w; exact .inl (by rw [upd_same, hh])
      · rw [upd_ne w]; exact e.s b
    · by_cases w : b = a
      · subst w; exact .inr hn
      · rw [upd_ne w] at z; exact e.n b o z
theorem lv_ov (h : OvD K H₀ E te dl) : LvD K H₀ E te dl := fun ex δ σ G H Qd Q hx S q k =>
  h ex δ σ G H _ Q hx S q fun a vs ds G' H' e hn hg hh hd qd => k a vs ds G' H' e (SqL.of hh) hd qd
theorem dv_list {G : Hp} {v : V} {ds : List PyData} (h : DV K G v (.list ds)) : ∃ a vs, v = .ref a ∧ SqL K G a vs ∧ DVs K G vs ds := by
  cases h with
  | lst h1 h2 => exact ⟨_, _, rfl, h1, h2⟩
theorem dv_tuple {G : Hp} {v : V} {ds : List PyData} (h : DV K G v (.tuple ds)) : ∃ a vs, v = .ref a ∧ SqT K G a vs ∧ DVs K G vs ds := by
  cases h with
  | tup h1 h2 => exact ⟨_, _, rfl, h1, h2⟩
theorem dv_int {G : Hp} {v : V} {i : Int} (h : DV K G v (.int i)) : v = .int i := by cases h; rfl
theorem dv_bl {G : Hp} {v : V} {i : Bool} (h : DV K G v (.bool i)) : v = .bl i := by cases h; rfl
theorem dv_str {G : Hp} {v : V} {i : Str} (h : DV K G v (.str i)) : v = .str i := by cases h; rfl
theorem dv_non {G : Hp} {v : V} (h : DV K G v .none) : v = .non := by cases h; rfl
theorem lv_ev (h : EvD K H₀ E te de) : LvD K H₀ E te (dAsL de) := fun ex δ σ G H Qd Q hx S q k =>
  h ex δ σ G H _ Q hx S q fun v d G' H' e hd qd => by
    cases d with
    | list ds =>
      obtain ⟨a, vs, rfl, h1, h2⟩ := dv_list hd
      exact k a vs ds G' H' e (e.s.same.seq h1) h2 qd
    | _ => exact qd.elim
theorem ev_var (i : Nat) : EvD K H₀ E (tVar i) (dVar i) := fun ex δ σ G H Qd Q hx S q k => by
  unfold dVar at q
  split at q
  · rename_i d hs
    obtain ⟨v, h1, h2⟩ := S.has i _ hs
    exact ⟨v, h1, k v d G H S.refl h2 q⟩
  · exact q.elim
theorem bv_var (i : Nat) : BvD K H₀ E (tVar i) (dBVar i) := fun ex δ σ G H Qd Q hx S q k => by
  unfold dBVar at q
  split at q
  · rename_i d hs
    obtain ⟨v, h1, h2⟩ := S.has i _ hs
    exact ⟨v, h1, k v d G H S.refl (dv_same S.sub.same h2) q⟩
  · rename_i ds hs
    obtain ⟨a, vs, h1, h2, h3, h4⟩ := S.ownAt hs
    exact ⟨_, h1, k _ _ G H S.refl (.lst (SqL.of h3) (dvs_same S.sub.same h4)) q⟩
  · exact q.elim
theorem lv_var (i : Nat) : LvD K H₀ E (tVar i) (dLVar i) := fun ex δ σ G H Qd Q hx S q k => by
  unfold dLVar at q
  split at q
  · rename_i ds hs
    obtain ⟨v, h1, h2⟩ := S.has i _ hs
    obtain ⟨a, vs, rfl, h3, h4⟩ := dv_list h2
    exact ⟨_, h1, k a vs ds G H S.refl (S.sub.same.seq h3) h4 q⟩
  · rename_i ds hs
    obtain ⟨a, vs, h1, h2, h3, h4⟩ := S.ownAt hs
    exact ⟨_, h1, k a vs ds G H S.refl (SqL.of h3) h4 q⟩
  · exact q.elim
theorem ev_c {v : V} {d : PyData} (h : ∀ G : Hp, DV K G v d) : EvD K H₀ E (tC v) (dC d) := fun ex δ σ G H Qd Q hx S q k => k v d G H S.refl (h G) q
theorem ev_int {i : Int} : EvD K H₀ E (tC (.int i)) (dC (.int i)) := ev_c fun _ => .int i
theorem ev_bl {i : Bool} : EvD K H₀ E (tC (.bl i)) (dC (.bool i)) := ev_c fun _ => .bl i
theorem ev_str {i : Str} : EvD K H₀ E (tC (.str i)) (dC (.str i)) := ev_c fun _ => .str i
theorem ev_non : EvD K H₀ E (tC .non) (dC .none) := ev_c fun _ => .non
theorem av_nil : AvD K H₀ E tNil dNil := fun ex δ σ G H Qd Q hx S q k => k [] [] G H S.refl .nil q
theorem av_cons (h : BvD K H₀ E te de) (t : AvD K H₀ E ta dl) : AvD K H₀ E (tCons te ta) (dCons de dl) := fun ex δ σ G H Qd Q hx S q k =>
  h ex δ σ G H _ _ hx S q fun v d G1 H1 e1 hd q1 => t ex δ σ G1 H1 _ _ hx (S.ext e1) q1 fun vs ds G2 H2 e2 hds q2 =>
    k (v :: vs) (d :: ds) G2 H2 (e1.trans e2) (.cons (dv_same e2.h hd) hds) q2
theorem ae_nil : AvE K H₀ E tNil 0 dNil := fun ex δ σ G H Qd Q hx S q k => k [] [] G H S.refl .nil rfl q
theorem ae_cons {n : Nat} (h : EvD K H₀ E te de) (t : AvE K H₀ E ta n dl) : AvE K H₀ E (tCons te ta) (n + 1) (dCons de dl) := fun ex δ σ G H Qd Q hx S q k =>
  h ex δ σ G H _ _ hx S q fun v d G1 H1 e1 hd q1 => t ex δ σ G1 H1 _ _ hx (S.ext e1) q1 fun vs ds G2 H2 e2 hds hn q2 =>
    k (v :: vs) (d :: ds) G2 H2 (e1.trans e2) (.cons (dv_same e2.g hd) hds) (by rw [List.length_cons, hn]) q2
theorem ext_new {G H : Hp} {p : Addr} {xs : List V} (s : Sub G H) (hp : H p = none) : Ext G H (upd G p (.tup xs)) (upd H p (.tup xs)) := by
  have hg : G p = none := s.same.free hp
  refine ⟨fun b o z => by rw [upd_ne (ne_of_none z hg)]; exact z, fun b o z => by rw [upd_ne (ne_of_none z hp)]; exact z, fun b => ?_, fun b o z => ?_⟩
  · by_cases w : b = p
    · subst w; exact .inl (by rw [upd_same, upd_same])
    · rw [upd_ne w, upd_ne w]; exact s b
  · by_cases w : b = p
    · subst w; exact .inr hp
    · rw [upd_ne w] at z; exact .inl z
theorem ext_newL {G H : Hp} {p : Addr} {xs : List V} (s : Sub G H) (hp : H p = none) : Ext G H G (upd H p (.lst xs)) ∧ G p = none := by
  have hg : G p = none := s.same.free hp
  refine ⟨⟨Same.refl _, fun b o z => by rw [upd_ne (ne_of_none z hp)]; exact z, fun b => ?_, fun b o z => .inl z⟩, hg⟩
  by_cases w : b = p
  · subst w; exact .inr ⟨hg, xs, upd_same⟩
  · rw [upd_ne w]; exact s b
noncomputable def dTup (dl : DL) (ex : DX) (δ : DEn) (Q : PyData → Prop) : Prop := dl ex δ fun ds => Q (.tuple ds)
noncomputable def dLst (dl : DL) (ex : DX) (δ : DEn) (Q : List PyData → Prop) : Prop := dl ex δ Q
theorem ev_tup {n : Nat} (h : AvE K H₀ E ta n dl) (hn : n ≤ 1000) : EvD K H₀ E (tTup ta) (dTup dl) := fun ex δ σ G H Qd Q hx S q k =>
  h ex δ σ G H _ _ hx S q fun vs ds G1 H1 e1 hd q0 q1 => ⟨Nat.le_of_lt (small1000 (by rw [hd.len, q0]; exact hn)), fun p hp => by
    have e2 := ext_new (xs := vs) e1.s hp
    exact k (.ref p) (.tuple ds) _ _ (e1.trans e2) (.tup (SqT.of upd_same) (dvs_same e2.g hd)) q1⟩
theorem ov_lst {n : Nat} (h : AvE K H₀ E ta n dl) (hn : n ≤ 1000) : OvD K H₀ E (tLst ta) (dLst dl) := fun ex δ σ G H Qd Q hx S q k =>
  h ex δ σ G H _ _ hx S q fun vs ds G1 H1 e1 hd q0 q1 => ⟨Nat.le_of_lt (small1000 (by rw [hd.len, q0]; exact hn)), fun p hp => by
    obtain ⟨e2, hg⟩ := ext_newL (xs := vs) e1.s hp
    exact k p vs ds _ _ (e1.trans e2) (e1.h.free hp) hg upd_same hd q1⟩
end
section
variable {K : PySem.W.Frag} {H₀ : Hp} {E : XK} {te ta tb : TE} {da db de : DE} {dl dk : DL} {t : TA} {tt tu : TT} {dt du : DT}
noncomputable abbrev RD2 := PyData → PyData → (PyData → Prop) → Prop
noncomputable def ROp (K : PySem.W.Frag) (r : R2) (rd : RD2) : Prop := ∀ (G H : Hp) (x y : V) (dx dy : PyData) (Qd : PyData → Prop) (Q : VK), DV K H x dx → DV K H y dy → rd dx dy Qd → (∀ v d, DV K G v d → Qd d → Q v H) → r x y H Q
noncomputable def dOp (rd : RD2) (da db : DE) (ex : DX) (δ : DEn) (Q : PyData → Prop) : Prop := da ex δ fun x => db ex δ fun y => rd x y Q
theorem ev_op {r : R2} {rd : RD2} (hr : ROp K r rd) (ha : BvD K H₀ E ta da) (hb : BvD K H₀ E tb db) : EvD K H₀ E (tOp r ta tb) (dOp rd da db) := fun ex δ σ G H Qd Q hx S q k =>
  ha ex δ σ G H _ _ hx S q fun x dx G1 H1 e1 h1 q1 => hb ex δ σ G1 H1 _ _ hx (S.ext e1) q1 fun y dy G2 H2 e2 h2 q2 =>
    hr G2 H2 x y dx dy Qd Q (dv_same e2.h h1) h2 q2 fun v d hv qd => k v d G2 H2 (e1.trans e2) hv qd
noncomputable def oI (C : Int → Int → Prop) (f : Int → Int → Int) (x y : PyData) (Q : PyData → Prop) : Prop := match x, y with
  | .int i, .int j => C i j ∧ Q (.int (f i j))
  | _, _ => False
noncomputable def oI0 (f : Int → Int → Int) (x y : PyData) (Q : PyData → Prop) : Prop := match x, y with
  | .int i, .int j => Q (.int (f i j))
  | _, _ => False
noncomputable def oB0 (f : Int → Int → Bool) (x y : PyData) (Q : PyData → Prop) : Prop := match x, y with
  | .int i, .int j => Q (.bool (f i j))
  | _, _ => False
theorem ro_i {C : Int → Int → Prop} {f : Int → Int → Int} : ROp K (rI C fun i j => .int (f i j)) (oI C f) := by
  intro G H x y dx dy Qd Q hx hy q k
  unfold oI at q
  split at q
  · cases dv_int hx; cases dv_int hy
    exact ⟨_, _, rfl, rfl, q.1, k _ _ (.int _) q.2⟩
  · exact q.elim
theorem ro_i0 {f : Int → Int → Int} : ROp K (rI0 fun i j => .int (f i j)) (oI0 f) := by
  intro G H x y dx dy Qd Q hx hy q k
  unfold oI0 at q
  split at q
  · cases dv_int hx; cases dv_int hy
    exact ⟨_, _, rfl, rfl, k _ _ (.int _) q⟩
  · exact q.elim
theorem ro_b0 {f : Int → Int → Bool} : ROp K (rI0 fun i j => .bl (f i j)) (oB0 f) := by
  intro G H x y dx dy Qd Q hx hy q k
  unfold oB0 at q
  split at q
  · cases dv_int hx; cases dv_int hy
    exact ⟨_, _, rfl, rfl, k _ _ (.bl _) q⟩
  · exact q.elim
noncomputable def oEq (x y : PyData) (Q : PyData → Prop) : Prop := match x, y with
  | .int i, .int j => Q (.bool (decide (i = j)))
  | .str i, .str j => Q (.bool (decide (i = j)))
  | .bool i, .bool j => Q (.bool (decide (i = j)))
  | _, _ => False
noncomputable def oNe (x y : PyData) (Q : PyData → Prop) : Prop := match x, y with
  | .int i, .int j => Q (.bool (!decide (i = j)))
  | .str i, .str j => Q (.bool (!decide (i = j)))
  | .bool i, .bool j => Q (.bool (!decide (i = j)))
  | _, _ => False
theorem ro_eq : ROp K rEq oEq := by
  intro G H x y dx dy Qd Q hx hy q k
  unfold oEq at q
  split at q
  · cases dv_int hx; cases dv_int hy
    refine ⟨rfl, k _ _ (.bl _) ?_⟩
    simpa using q
  · cases dv_str hx; cases dv_str hy
    refine ⟨rfl, k _ _ (.bl _) ?_⟩
    simpa using q
  · cases dv_bl hx; cases dv_bl hy
    refine ⟨rfl, k _ _ (.bl _) ?_⟩
    simpa using q
  · exact q.elim
theorem ro_ne : ROp K rNe oNe := by
  intro G H x y dx dy Qd Q hx hy q k
  unfold oNe at q
  split at q
  · cases dv_int hx; cases dv_int hy
    refine ⟨rfl, k _ _ (.bl _) ?_⟩
    simpa using q
  · cases dv_str hx; cases dv_str hy
    refine ⟨rfl, k _ _ (.bl _) ?_⟩
    simpa using q
  · cases dv_bl hx; cases dv_bl hy
    refine ⟨rfl, k _ _ (.bl _) ?_⟩
    simpa using q
  · exact q.elim
noncomputable def oEqD (x y : PyData) (Q : PyData → Prop) : Prop := ∃ (α : Type) (e : Enc α) (a b : α), x = e.d a ∧ y = e.d b ∧ ∀ k : Bool, (k = true ↔ a = b) → Q (.bool k)
noncomputable def oNeD (x y : PyData) (Q : PyData → Prop) : Prop := ∃ (α : Type) (e : Enc α) (a b : α), x = e.d a ∧ y = e.d b ∧ ∀ k : Bool, (k = true ↔ a = b) → Q (.bool !k)
theorem ro_eqD : ROp K (rEqD K false) oEqD := by
  rintro G H x y dx dy Qd Q hx hy ⟨α, e, a, b, rfl, rfl, q⟩ k
  exact ⟨α, e, a, b, hx, hy, fun c hc => k _ _ (.bl _) (q c hc)⟩
theorem ro_neD : ROp K (rEqD K true) oNeD := by
  rintro G H x y dx dy Qd Q hx hy ⟨α, e, a, b, rfl, rfl, q⟩ k
  exact ⟨α, e, a, b, hx, hy, fun c hc => k _ _ (.bl _) (q c hc)⟩
noncomputable def oIsN (neg : Bool) (x y : PyData) (Q : PyData → Prop) : Prop := match y with
  | .none => (match x with
    | .none => Q (.bool (!neg))
    | _ => Q (.bool neg))
  | _ => False
theorem dv_isN {H : Hp} {x : V} {d : PyData} (h : DV K H x d) : (x = .non ↔ d = .none) := by
  cases h <;> simp
theorem ro_notN : ROp K (fun x y H Q => y = .non ∧ Q (.bl (!decide (x = .non))) H) (oIsN true) := by
  intro G H x y dx dy Qd Q hx hy q k
  cases dy with
  | none =>
    refine ⟨dv_non hy, k _ _ (.bl _) ?_⟩
    cases dx with
    | none => rw [decide_eq_true (dv_non hx)]; exact q
    | _ => rw [decide_eq_false (fun z => by have := (dv_isN hx).mp z; cases this)]; exact q
  | _ => exact q.elim
noncomputable def dNeg (da : DE) (ex : DX) (δ : DEn) (Q : PyData → Prop) : Prop := da ex δ fun x => match x with
  | .int i => Q (.int (-i))
  | _ => False
theorem ev_neg (ha : BvD K H₀ E ta da) : EvD K H₀ E (tUn (rU fun i => .int (-i)) ta) (dNeg da) := fun ex δ σ G H Qd Q hx S q k =>
  ha ex δ σ G H _ _ hx S q fun x dx G1 H1 e1 h1 q1 => by
    cases dx with
    | int i =>
      cases dv_int h1
      exact ⟨_, rfl, k _ _ G1 H1 e1 (.int _) q1⟩
    | _ => exact q1.elim
theorem ev_k {v : Int} (h : EvD K H₀ E te de) (hk : ∀ ex δ Q, Q (.int v) → de ex δ Q) : EvD K H₀ E te (dC (.int v)) := fun ex δ σ G H Qd Q hx S q k => h ex δ σ G H Qd Q hx S (hk ex δ Qd q) k
noncomputable def dMap (f : Int → Int) (da : DE) (ex : DX) (δ : DEn) (Q : PyData → Prop) : Prop := da ex δ fun x => match x with
  | .int i => Q (.int (f i))
  | _ => False
theorem ev_dvk {k : Int} (hk : CDivB 0 k) (ha : BvD K H₀ E ta da) (hb : EvD K H₀ E tb (dC (.int k))) : EvD K H₀ E (tOp (rI CDivB fun i j => .int (i / j)) ta tb) (dMap (fun i => i / k) da) := fun ex δ σ G H Qd Q hx S q k' =>
  ha ex δ σ G H _ _ hx S q fun x dx G1 H1 e1 h1 q1 => hb ex δ σ G1 H1 (fun d => d = .int k) _ hx (S.ext e1) rfl fun y dy G2 H2 e2 h2 hy => by
    subst hy
    cases dv_int h2
    cases dx with
    | int i => cases dv_int h1; exact ⟨_, _, rfl, rfl, hk, k' _ _ G2 H2 (e1.trans e2) (.int _) q1⟩
    | _ => exact q1.elim
theorem ev_mdk {k : Int} (hk : 0 < k) (ha : BvD K H₀ E ta da) (hb : EvD K H₀ E tb (dC (.int k))) : EvD K H₀ E (tOp (rI (fun _ j => 0 < j) fun i j => .int (i % j)) ta tb) (dMap (fun i => i % k) da) := fun ex δ σ G H Qd Q hx S q k' =>
  ha ex δ σ G H _ _ hx S q fun x dx G1 H1 e1 h1 q1 => hb ex δ σ G1 H1 (fun d => d = .int k) _ hx (S.ext e1) rfl fun y dy G2 H2 e2 h2 hy => by
    subst hy
    cases dv_int h2
    cases dx with
    | int i => cases dv_int h1; exact ⟨_, _, rfl, rfl, hk, k' _ _ G2 H2 (e1.trans e2) (.int _) q1⟩
    | _ => exact q1.elim
noncomputable def dIxL (dl : DL) (db : DE) (ex : DX) (δ : DEn) (Q : PyData → Prop) : Prop := dl ex δ fun ds => db ex δ fun y => match y with
  | .int i => ∃ d, atI ds i = some d ∧ Q d
  | _ => False
theorem dvs_atI {G : Hp} {vs : List V} {ds : List PyData} {i : Int} {d : PyData} (h : DVs K G vs ds) (e : atI ds i = some d) : ∃ v, atI vs i = some v ∧ DV K G v d := by
  unfold atI at e ⊢
  rw [h.len]
  cases q : ixN ds.length i with
  | none => rw [q] at e; cases e
  | some j =>
    rw [q] at e
    exact h.at e
theorem ev_ixl (ha : LvD K H₀ E ta dl) (hb : BvD K H₀ E tb db) : EvD K H₀ E (tOp (rIxL K) ta tb) (dIxL dl db) := fun ex δ σ G H Qd Q hx S q k =>
  ha ex δ σ G H _ _ hx S q fun a vs ds G1 H1 e1 h1 h2 q1 => hb ex δ σ G1 H1 _ _ hx (S.ext e1) q1 fun y dy G2 H2 e2 h3 q2 => by
    cases dy with
    | int i =>
      obtain ⟨d, z, q2⟩ := q2
      cases dv_int h3
      obtain ⟨v, z1, z2⟩ := dvs_atI h2 z
      exact ⟨a, vs, i, v, rfl, rfl, e2.h.seq h1, z1, k v d G2 H2 (e1.trans e2) (dv_same e2.g z2) q2⟩
    | _ => exact q2.elim
noncomputable def nth : List PyData → Nat → Option PyData
  | [], _ => none
  | d :: _, 0 => some d
  | _ :: ds, n + 1 => nth ds n
theorem nth_at : ∀ {ds : List PyData} {k : Nat} {d : PyData}, nth ds k = some d → ds[k]? = some d
  | [], _, _, h => by cases h
  | d :: _, 0, _, h => by simpa [nth] using h
  | _ :: ds, k + 1, d, h => by simpa using nth_at (ds := ds) (k := k) (d := d) h
noncomputable def dIxK (k : Nat) (da : DE) (ex : DX) (δ : DEn) (Q : PyData → Prop) : Prop := da ex δ fun x => match x with
  | .tuple ds => (match nth ds k with
    | some d => Q d
    | none => False)
  | _ => False
theorem ev_ixk (m : Nat) (ha : EvD K H₀ E ta da) : EvD K H₀ E (tOp (rIxT K) ta (tC (.int (m : Int)))) (dIxK m da) := fun ex δ σ G H Qd Q hx S q k =>
  ha ex δ σ G H _ _ hx S q fun x dx G1 H1 e1 h1 q1 => by
    cases dx with
    | tuple ds =>
      dsimp only at q1
      split at q1
      · rename_i d z
        obtain ⟨a, vs, rfl, h2, h3⟩ := dv_tuple h1
        obtain ⟨v, z1, z2⟩ := dvs_atI h3 (atI_nat (nth_at z))
        exact ⟨a, vs, _, v, rfl, rfl, sqT_same e1.s.same h2, z1, k v _ G1 H1 e1 z2 q1⟩
      · exact q1.elim
    | _ => exact q1.elim
noncomputable abbrev RDc := List PyData → (PyData → Prop) → Prop
noncomputable def RCb (K : PySem.W.Frag) (r : List V → Hp → VK → Prop) (rd : RDc) : Prop := ∀ (G H : Hp) (xs : List V) (ds : List PyData) (Qd : PyData → Prop) (Q : VK), DVs K H xs ds → rd ds Qd → (∀ v d, DV K G v d → Qd d → Q v H) → r xs H Q
noncomputable def dCb (rd : RDc) (dl : DL) (ex : DX) (δ : DEn) (Q : PyData → Prop) : Prop := dl ex δ fun ds => rd ds Q
theorem ev_cb {r : List V → Hp → VK → Prop} {rd : RDc} (hr : RCb K r rd) (ha : AvD K H₀ E t dl) : EvD K H₀ E (tCB r t) (dCb rd dl) := fun ex δ σ G H Qd Q hx S q k =>
  ha ex δ σ G H _ _ hx S q fun vs ds G1 H1 e1 h1 q1 => hr G1 H1 vs ds Qd Q h1 q1 fun v d hv qd => k v d G1 H1 e1 hv qd
noncomputable def bAbs (ds : List PyData) (Q : PyData → Prop) : Prop := match ds with
  | [.int i] => Q (.int (if i < 0 then -i else i))
  | _ => False
noncomputable def bMin (ds : List PyData) (Q : PyData → Prop) : Prop := match ds with
  | [.int i, .int j] => Q (.int (if j < i then j else i))
  | _ => False
noncomputable def bLen (ds : List PyData) (Q : PyData → Prop) : Prop := match ds with
  | [.list xs] => Q (.int xs.length)
  | [.tuple xs] => Q (.int xs.length)
  | _ => False
noncomputable def bSum (ds : List PyData) (Q : PyData → Prop) : Prop := match ds with
  | [.list xs] => ∃ ns : List Int, xs = ns.map PyData.int ∧ Q (.int ns.sum)
  | _ => False
noncomputable def bInt (ds : List PyData) (Q : PyData → Prop) : Prop := match ds with
  | [.int i] => Q (.int i)
  | [.bool b] => Q (.int (if b then 1 else 0))
  | _ => False
theorem dvs1 {H : Hp} {xs : List V} {d : PyData} (h : DVs K H xs [d]) : ∃ x, xs = [x] ∧ DV K H x d := by
  cases h with
  | cons h t => cases t; exact ⟨_, rfl, h⟩
theorem dvs2 {H : Hp} {xs : List V} {d e : PyData} (h : DVs K H xs [d, e]) : ∃ x y, xs = [x, y] ∧ DV K H x d ∧ DV K H y e := by
  cases h with
  | cons h t => cases t with
    | cons h2 t => cases t; exact ⟨_, _, rfl, h, h2⟩
theorem rb_abs : RCb K (fun xs H Q => ∃ i, xs = [.int i] ∧ Q (.int (if i < 0 then -i else i)) H) bAbs := by
  intro G H xs ds Qd Q h q k
  unfold bAbs at q
  split at q
  · obtain ⟨x, rfl, hx⟩ := dvs1 h
    cases dv_int hx
    exact ⟨_, rfl, k _ _ (.int _) q⟩
  · exact q.elim
theorem rb_min : RCb K (fun xs H Q => ∃ i j, xs = [.int i, .int j] ∧ Q (.int (if j < i then j else i)) H) bMin := by
  intro G H xs ds Qd Q h q k
  unfold bMin at q
  split at q
  · obtain ⟨x, y, rfl, hx, hy⟩ := dvs2 h
    cases dv_int hx; cases dv_int hy
    exact ⟨_, _, rfl, k _ _ (.int _) q⟩
  · exact q.elim
theorem rb_len : RCb K (fun xs H Q => ∃ p ys, xs = [.ref p] ∧ (SqL K H p ys ∨ SqT K H p ys) ∧ Q (.int ys.length) H) bLen := by
  intro G H xs ds Qd Q h q k
  unfold bLen at q
  split at q
  · obtain ⟨x, rfl, hx⟩ := dvs1 h
    obtain ⟨a, vs, rfl, h1, h2⟩ := dv_list hx
    exact ⟨a, vs, rfl, .inl h1, k _ _ (.int _) (by rw [h2.len]; exact q)⟩
  · obtain ⟨x, rfl, hx⟩ := dvs1 h
    obtain ⟨a, vs, rfl, h1, h2⟩ := dv_tuple hx
    exact ⟨a, vs, rfl, .inr h1, k _ _ (.int _) (by rw [h2.len]; exact q)⟩
  · exact q.elim
theorem dvs_ints {H : Hp} : ∀ {ns : List Int} {xs : List V}, DVs K H xs (ns.map PyData.int) → xs = ns.map V.int
  | [], _, .nil => rfl
  | n :: ns, _, .cons h t => by
    cases dv_int h
    rw [dvs_ints t]; rfl
theorem rb_sum : RCb K (fun xs H Q => ∃ (p : Addr) (ns : List Int), xs = [.ref p] ∧ SqL K H p (ns.map V.int) ∧ Q (.int ns.sum) H) bSum := by
  intro G H xs ds Qd Q h q k
  unfold bSum at q
  split at q
  · obtain ⟨x, rfl, hx⟩ := dvs1 h
    obtain ⟨ns, rfl, q⟩ := q
    obtain ⟨a, vs, rfl, h1, h2⟩ := dv_list hx
    cases dvs_ints h2
    exact ⟨a, ns, rfl, h1, k _ _ (.int _) q⟩
  · exact q.elim
theorem rb_int : RCb K (fun xs H Q => (∃ i, xs = [.int i] ∧ Q (.int i) H) ∨ ∃ k, xs = [.bl k] ∧ Q (.int (if k then 1 else 0)) H) bInt := by
  intro G H xs ds Qd Q h q k
  unfold bInt at q
  split at q
  · obtain ⟨x, rfl, hx⟩ := dvs1 h
    cases dv_int hx
    exact .inl ⟨_, rfl, k _ _ (.int _) q⟩
  · obtain ⟨x, rfl, hx⟩ := dvs1 h
    cases dv_bl hx
    exact .inr ⟨_, rfl, k _ _ (.int _) q⟩
  · exact q.elim
noncomputable def dListOf (dl : DL) (ex : DX) (δ : DEn) (Q : List PyData → Prop) : Prop := dl ex δ Q
theorem ov_list {te : TE} (ha : LvD K H₀ E te dl) : OvD K H₀ E (tCB (fun xs H Q => ∃ p ys, xs = [.ref p] ∧ (SqL K H p ys ∨ SqT K H p ys) ∧ ∀ l, H l = none → Q (.ref l) (upd H l (.lst ys))) (tCons te tNil)) (dListOf dl) := fun ex δ σ G H Qd Q hx S q k =>
  ha ex δ σ G H _ _ hx S q fun a vs ds G1 H1 e1 h1 h2 q1 => ⟨a, vs, rfl, .inl h1, fun p hp => by
    obtain ⟨e2, hg⟩ := ext_newL (xs := vs) e1.s hp
    exact k p vs ds _ _ (e1.trans e2) (e1.h.free hp) hg upd_same h2 q1⟩
noncomputable def tyD : PyData → String
  | .none => "NoneType"
  | .bool _ => "bool"
  | .int _ => "int"
  | .str _ => "str"
  | .list _ => "list"
  | .tuple _ => "tuple"
  | .dict _ => "dict"
noncomputable def isD (n : String) (d : PyData) : Bool := tyD d == n || (n == "int" && tyD d == "bool")
noncomputable abbrev DO := DX → DEn → (Option Int → Prop) → Prop
noncomputable def OvP (K : PySem.W.Frag) (H₀ : Hp) (E : XK) (to : TO) (d : DO) : Prop := ∀ ex δ σ G H Qd Q, ExOk H₀ E ex → Sees K H₀ G δ σ H → d ex δ Qd → (∀ o G' H', Ext G H G' H' → Qd o → Q o H') → to σ H Q
noncomputable def dNoP (_ex : DX) (_δ : DEn) (Q : Option Int → Prop) : Prop := Q none
noncomputable def dPart (de : DE) (ex : DX) (δ : DEn) (Q : Option Int → Prop) : Prop := de ex δ fun x => match x with
  | .int i => Q (some i)
  | _ => False
theorem op_no : OvP K H₀ E tNoPart dNoP := fun ex δ σ G H Qd Q hx S q k => k none G H S.refl q
theorem op_part (h : BvD K H₀ E te de) : OvP K H₀ E (tPart te) (dPart de) := fun ex δ σ G H Qd Q hx S q k =>
  h ex δ σ G H _ _ hx S q fun x dx G1 H1 e1 h1 q1 => by
    cases dx with
    | int i =>
      cases dv_int h1
      exact ⟨_, rfl, k _ G1 H1 e1 q1⟩
    | _ => exact q1.elim
noncomputable def cutL {α : Type} (xs : List α) (lo hi : Option Int) : List α := (xs.drop (HT.sIx xs.length 0 lo)).take (HT.sIx xs.length xs.length hi - HT.sIx xs.length 0 lo)
theorem cutL_map {α β : Type} (f : α → β) (xs : List α) (lo hi : Option Int) : cutL (xs.map f) lo hi = (cutL xs lo hi).map f := by
  unfold cutL
  rw [List.length_map, List.map_take, List.map_drop]
noncomputable def dSl (dl : DL) (d1 d2 : DO) (ex : DX) (δ : DEn) (Q : List PyData → Prop) : Prop := dl ex δ fun ds => d1 ex δ fun lo => d2 ex δ fun hi => Q (cutL ds lo hi)
theorem dvs_cut {G : Hp} {vs : List V} {ds : List PyData} {lo hi : Option Int} (h : DVs K G vs ds) : DVs K G (cutV vs lo hi) (cutL ds lo hi) := by
  unfold cutV cutL
  rw [h.len]
  exact (h.drop _).take _
theorem ov_sl {t1 t2 : TO} {d1 d2 : DO} (ha : LvD K H₀ E te dl) (h1 : OvP K H₀ E t1 d1) (h2 : OvP K H₀ E t2 d2) : OvD K H₀ E (tSl (rSlL K) te t1 t2) (dSl dl d1 d2) := fun ex δ σ G H Qd Q hx S q k =>
  ha ex δ σ G H _ _ hx S q fun a vs ds G1 H1 e1 g1 g2 q1 => h1 ex δ σ G1 H1 _ _ hx (S.ext e1) q1 fun lo G2 H2 e2 q2 => h2 ex δ σ G2 H2 _ _ hx (S.ext (e1.trans e2)) q2 fun hi G3 H3 e3 q3 =>
    ⟨a, vs, rfl, (e2.trans e3).h.seq g1, fun p hp => by
      obtain ⟨e4, hg⟩ := ext_newL (xs := cutV vs lo hi) e3.s hp
      have e0 := e1.trans (e2.trans e3)
      exact k p _ _ _ _ (e0.trans e4) (e0.h.free hp) hg upd_same (dvs_same (e2.trans e3).g (dvs_cut g2)) q3⟩
noncomputable def dAsB (de : DE) (ex : DX) (δ : DEn) (Q : Bool → Prop) : Prop := de ex δ fun x => match x with
  | .bool b => Q b
  | _ => False
theorem tv_b (h : BvD K H₀ E te de) : TvD K H₀ E (tB te) (dAsB de) := fun ex δ σ G H Qd Q hx S q k =>
  h ex δ σ G H _ _ hx S q fun x dx G1 H1 e1 h1 q1 => by
    cases dx with
    | bool i =>
      cases dv_bl h1
      exact ⟨_, rfl, k _ G1 H1 e1 q1⟩
    | _ => exact q1.elim
theorem tv_test (h : BvD K H₀ E te de) : TvD K H₀ E (tTest te) (dAsB de) := fun ex δ σ G H Qd Q hx S q k =>
  h ex δ σ G H _ _ hx S q fun x dx G1 H1 e1 h1 q1 => by
    cases dx with
    | bool i =>
      cases dv_bl h1
      exact ⟨_, rfl, k _ G1 H1 e1 q1⟩
    | _ => exact q1.elim
noncomputable def dAnd (dt du : DT) (ex : DX) (δ : DEn) (Q : Bool → Prop) : Prop := dt ex δ fun b => if b = true then du ex δ Q else Q false
noncomputable def dOr (dt du : DT) (ex : DX) (δ : DEn) (Q : Bool → Prop) : Prop := dt ex δ fun b => if b = true then Q true else du ex δ Q
noncomputable def dNot (dt : DT) (ex : DX) (δ : DEn) (Q : Bool → Prop) : Prop := dt ex δ fun b => Q (!b)
theorem tv_and (h1 : TvD K H₀ E tt dt) (h2 : TvD K H₀ E tu du) : TvD K H₀ E (tAnd tt tu) (dAnd dt du) := fun ex δ σ G H Qd Q hx S q k =>
  h1 ex δ σ G H _ _ hx S q fun b G1 H1 e1 q1 => by
    cases b with
    | true => exact h2 ex δ σ G1 H1 _ _ hx (S.ext e1) q1 fun c G2 H2 e2 q2 => k c G2 H2 (e1.trans e2) q2
    | false => exact k false G1 H1 e1 q1
theorem tv_or (h1 : TvD K H₀ E tt dt) (h2 : TvD K H₀ E tu du) : TvD K H₀ E (tOr tt tu) (dOr dt du) := fun ex δ σ G H Qd Q hx S q k =>
  h1 ex δ σ G H _ _ hx S q fun b G1 H1 e1 q1 => by
    cases b with
    | false => exact h2 ex δ σ G1 H1 _ _ hx (S.ext e1) q1 fun c G2 H2 e2 q2 => k c G2 H2 (e1.trans e2) q2
    | true => exact k true G1 H1 e1 q1
theorem tv_not (h1 : TvD K H₀ E tt dt) : TvD K H₀ E (tNot tt) (dNot dt) := fun ex δ σ G H Qd Q hx S q k =>
  h1 ex δ σ G H _ _ hx S q fun b G1 H1 e1 q1 => k _ G1 H1 e1 q1
noncomputable def dAndV (da db : DE) (ex : DX) (δ : DEn) (Q : PyData → Prop) : Prop := da ex δ fun x => match x with
  | .bool b => if b = true then db ex δ Q else Q (.bool false)
  | _ => False
noncomputable def dNotV (da : DE) (ex : DX) (δ : DEn) (Q : PyData → Prop) : Prop := da ex δ fun x => match x with
  | .bool b => Q (.bool (!b))
  | _ => False
theorem ev_and (ha : BvD K H₀ E ta da) (hb : EvD K H₀ E tb db) : EvD K H₀ E (tAndV ta tb) (dAndV da db) := fun ex δ σ G H Qd Q hx S q k =>
  ha ex δ σ G H _ _ hx S q fun x dx G1 H1 e1 h1 q1 => by
    cases dx with
    | bool i =>
      cases dv_bl h1
      refine ⟨_, rfl, ?_⟩
      cases i with
      | true => exact hb ex δ σ G1 H1 _ _ hx (S.ext e1) q1 fun v d G2 H2 e2 hd q2 => k v d G2 H2 (e1.trans e2) hd q2
      | false => exact k _ _ G1 H1 e1 (.bl _) q1
    | _ => exact q1.elim
theorem ev_not (ha : BvD K H₀ E ta da) : EvD K H₀ E (tNotV ta) (dNotV da) := fun ex δ σ G H Qd Q hx S q k =>
  ha ex δ σ G H _ _ hx S q fun x dx G1 H1 e1 h1 q1 => by
    cases dx with
    | bool i =>
      cases dv_bl h1
      exact ⟨_, rfl, k _ _ G1 H1 e1 (.bl _) q1⟩
    | _ => exact q1.elim
noncomputable abbrev DW := List PyData → (Sl → Prop) → DX → Prop
noncomputable def rm (H : Hp) (a : Addr) : Hp := fun b => if b = a then none else H b
noncomputable def RetIs (K : PySem.W.Frag) (H H' : Hp) (v : V) : Sl → Prop
  | .dat d => DV K H' v d
  | .own ds => ∃ a vs, v = .ref a ∧ H a = none ∧ H' a = some (.lst vs) ∧ DVs K (rm H' a) vs ds
  | .exc _ => False
  | .fz as d => (∀ c ∈ as, H c = none) ∧ 3 ≤ as.length ∧ FzIs K H' v as d
  | .two xs ys => ∃ t a b vs ws, v = .ref t ∧ SqT K H' t [.ref a, .ref b] ∧ a ≠ b ∧ H a = none ∧ H b = none ∧ H' a = some (.lst vs) ∧ H' b = some (.lst ws) ∧ DVs K (rm (rm H' a) b) vs xs ∧ DVs K (rm (rm H' a) b) ws ys
noncomputable def spW (K : PySem.W.Frag) (w : DW) : Sp := fun vs H Q E => ∃ ds Qd Ed, DVs K H vs ds ∧ w ds Qd Ed ∧ (∀ v s H', Same H H' → RetIs K H H' v s → Qd s → Q v H') ∧ (∀ C H', Same H H' → Ed C → E (.ref C) none H')
noncomputable def grow (G H H' : Hp) : Hp := fun b => match H b with
  | none => H' b
  | some _ => G b
theorem ext_grow {G H H' : Hp} (s : Sub G H) (h : Same H H') : Ext G H (grow G H H') H' := by
  refine ⟨fun b o z => ?_, h, fun b => ?_, fun b o z => ?_⟩
  · unfold grow
    rw [s.same b o z]
    exact z
  · unfold grow
    cases q : H b with
    | none => exact .inl rfl
    | some o =>
      dsimp only
      rw [h b o q]
      have := s b
      rw [q] at this
      exact this
  · unfold grow at z
    cases q : H b with
    | none => exact .inr rfl
    | some u => rw [q] at z; exact .inl z
theorem grow_flat {G H H' : Hp} (s : Sub G H) (h : Same H H') : ∀ b o, H' b = some o → (∀ xs, o ≠ .lst xs) → grow G H H' b = some o := fun b o e n => by
  unfold grow
  cases q : H b with
  | none => exact e
  | some u =>
    dsimp only
    have := h b u q
    rw [e] at this
    cases this
    exact s.other q n
noncomputable def flatS : (PyData → Prop) → Sl → Prop
  | Q, .dat d => flatD d = true ∧ Q d
  | Q, .own ds => flatDs ds = true ∧ Q (.list ds)
  | _, .exc _ => False
  | _, .fz _ _ => False
  | _, .two _ _ => False
noncomputable def ownS : (List PyData → Prop) → Sl → Prop
  | _, .dat _ => False
  | Q, .own ds => flatDs ds = true ∧ Q ds
  | _, .exc _ => False
  | _, .fz _ _ => False
  | _, .two _ _ => False
noncomputable def anyS : (PyData → Prop) → Sl → Prop
  | Q, .dat d => Q d
  | Q, .own ds => Q (.list ds)
  | _, .exc _ => False
  | Q, .fz _ d => Q d
  | Q, .two xs ys => Q (.tuple [.list xs, .list ys])
noncomputable def fzS : (List Addr → PyData → Prop) → Sl → Prop
  | Q, .fz as d => Q as d
  | _, .dat _ => False
  | _, .own _ => False
  | _, .exc _ => False
  | _, .two _ _ => False
noncomputable def dCall (w : DW) (dl : DL) (ex : DX) (δ : DEn) (Q : PyData → Prop) : Prop := dl ex δ fun ds => w ds (flatS Q) ex
noncomputable def dCall0 (w : DW) (dl : DL) (ex : DX) (δ : DEn) (Q : PyData → Prop) : Prop := dl ex δ fun ds => w ds (flatS Q) fun _ => False
noncomputable def dCallO0 (w : DW) (dl : DL) (ex : DX) (δ : DEn) (Q : List PyData → Prop) : Prop := dl ex δ fun ds => w ds (ownS Q) fun _ => False
noncomputable def dCallB0 (w : DW) (dl : DL) (ex : DX) (δ : DEn) (Q : PyData → Prop) : Prop := dl ex δ fun ds => w ds (anyS Q) fun _ => False
theorem exok0 {H₀ : Hp} {E : XK} : ExOk H₀ E fun _ => False := fun _ _ _ z => z.elim
theorem ret_flat {G H H' : Hp} {v : V} {s : Sl} {Q : PyData → Prop} (hs : Sub G H) (h : Same H H') (r : RetIs K H H' v s) (q : flatS Q s) : ∃ d G', Ext G H G' H' ∧ DV K G' v d ∧ Q d := by
  cases s with
  | exc C => exact r.elim
  | fz _ _ => exact q.elim
  | two xs ys => exact q.elim
  | dat d => exact ⟨d, _, ext_grow hs h, dv_flat (grow_flat hs h) r q.1, q.2⟩
  | own ds =>
    obtain ⟨a, vs, rfl, hn, hh, hd⟩ := r
    have hd1 : DVs K H' vs ds := dvs_same (fun b o z => by
      unfold rm at z
      split at z
      · cases z
      · exact z) hd
    refine ⟨.list ds, _, ext_grow hs h, .lst (SqL.of ?_) (dvs_flat (grow_flat hs h) hd1 q.1), q.2⟩
    unfold grow
    rw [hn]
    exact hh
theorem ret_own {G H H' : Hp} {v : V} {s : Sl} {Q : List PyData → Prop} (hs : Sub G H) (h : Same H H') (r : RetIs K H H' v s) (q : ownS Q s) :
    ∃ a vs ds G', v = .ref a ∧ Ext G H G' H' ∧ H a = none ∧ G' a = none ∧ H' a = some (.lst vs) ∧ DVs K G' vs ds ∧ Q ds := by
  cases s with
  | exc C => exact r.elim
  | fz _ _ => exact q.elim
  | two xs ys => exact q.elim
  | dat d => exact q.elim
  | own ds =>
    obtain ⟨a, vs, rfl, hn, hh, hd⟩ := r
    have e := ext_grow hs h
    have hg : G a = none := hs.same.free hn
    refine ⟨a, vs, ds, rm (grow G H H') a, rfl, ⟨fun b o z => ?_, h, fun b => ?_, fun b o z => ?_⟩, hn, by unfold rm; rw [if_pos rfl], hh, dvs_flat (fun b o z n => ?_) hd q.1, q.2⟩
    · unfold rm
      rw [if_neg (ne_of_none z hg)]
      exact e.g b o z
    · unfold rm
      split
      · rename_i z; subst z
        exact .inr ⟨rfl, vs, hh⟩
      · exact e.s b
    · unfold rm at z
      split at z
      · cases z
      · exact e.n b o z
    · unfold rm at z ⊢
      split at z
      · cases z
      · rename_i hb
        rw [if_neg hb]
        exact grow_flat hs h b o z n
theorem rm2_same {H : Hp} {a b : Addr} : Same (rm (rm H a) b) H := fun c o z => by
  unfold rm at z
  split at z
  · cases z
  · split at z
    · cases z
    · exact z
theorem ret_any {H H' : Hp} {v : V} {s : Sl} {Q : PyData → Prop} (r : RetIs K H H' v s) (q : anyS Q s) : ∃ d, DV K H' v d ∧ Q d := by
  cases s with
  | exc C => exact r.elim
  | fz as d => exact ⟨d, r.2.2.dv, q⟩
  | two xs ys =>
    obtain ⟨t, a, b, vs, ws, rfl, ht, hab, ha, hb, hh, hk, hd, he⟩ := r
    have sm : Same (rm (rm H' a) b) H' := rm2_same
    exact ⟨.tuple [.list xs, .list ys], .tup ht (.cons (.lst (SqL.of hh) (dvs_same sm hd)) (.cons (.lst (SqL.of hk) (dvs_same sm he)) .nil)), q⟩
  | dat d => exact ⟨d, r, q⟩
  | own ds =>
    obtain ⟨a, vs, rfl, hn, hh, hd⟩ := r
    exact ⟨.list ds, .lst (SqL.of hh) (dvs_same (fun b o z => by
      unfold rm at z
      split at z
      · cases z
      · exact z) hd), q⟩
section
variable {w : DW}
theorem call_use {E' : XK} {ex : DX} {δ : DEn} {σ : L2.St} {G H : Hp} {Q : VK} {QS : Sl → Prop} (ha : AvD K H₀ E t dl) (hx : ExOk H₀ E ex) (hx' : ∀ ex', ex' = ex ∨ ex' = (fun _ => False) → ExOk H₀ E' ex' ∨ True) (S : Sees K H₀ G δ σ H) (ex' : DX) (he : ExOk H₀ E' ex')
    (q : dl ex δ fun ds => w ds QS ex') (k : ∀ v s G1 H1 H2, Ext G H G1 H1 → Same H1 H2 → RetIs K H1 H2 v s → QS s → Q v H2) : tCall (spW K w) [] E' t σ H Q :=
  ha ex δ σ G H _ _ hx S q fun vs ds G1 H1 e1 h1 q1 => by
    refine ⟨ds, QS, ex', by rw [List.append_nil]; exact h1, q1, fun v s H2 sm r qs => k v s G1 H1 H2 e1 sm r qs, fun C H2 sm hc => he C H2 ((S.ext e1).oldH.trans sm) hc⟩
theorem ev_call (ha : AvD K H₀ E t dl) : EvD K H₀ E (tCall (spW K w) [] E t) (dCall w dl) := fun ex δ σ G H Qd Q hx S q k =>
  call_use ha hx (fun _ _ => .inr trivial) S ex hx q fun v s G1 H1 H2 e1 sm r qs => by
    obtain ⟨d, G', e2, hd, q2⟩ := ret_flat e1.s sm r qs
    exact k v d G' H2 (e1.trans e2) hd q2
theorem ev_call0 (ha : AvD K H₀ E t dl) : EvD K H₀ E (tCall (spW K w) [] E0 t) (dCall0 w dl) := fun ex δ σ G H Qd Q hx S q k =>
  call_use ha hx (fun _ _ => .inr trivial) S (fun _ => False) exok0 q fun v s G1 H1 H2 e1 sm r qs => by
    obtain ⟨d, G', e2, hd, q2⟩ := ret_flat e1.s sm r qs
    exact k v d G' H2 (e1.trans e2) hd q2
theorem ov_call0 (ha : AvD K H₀ E t dl) : OvD K H₀ E (tCall (spW K w) [] E0 t) (dCallO0 w dl) := fun ex δ σ G H Qd Q hx S q k =>
  call_use ha hx (fun _ _ => .inr trivial) S (fun _ => False) exok0 q fun v s G1 H1 H2 e1 sm r qs => by
    obtain ⟨a, vs, ds, G', rfl, e2, hn, hg, hh, hd, q2⟩ := ret_own e1.s sm r qs
    exact k a vs ds G' H2 (e1.trans e2) (e1.h.free hn) hg hh hd q2
theorem bv_call0 (ha : AvD K H₀ E t dl) : BvD K H₀ E (tCall (spW K w) [] E0 t) (dCallB0 w dl) := fun ex δ σ G H Qd Q hx S q k =>
  call_use ha hx (fun _ _ => .inr trivial) S (fun _ => False) exok0 q fun v s G1 H1 H2 e1 sm r qs => by
    obtain ⟨d, hd, q2⟩ := ret_any r qs
    exact k v d _ H2 (e1.trans (ext_grow e1.s sm)) hd q2
end
end
structure DEnds where
  nx : DEn → Prop
  rt : Sl → Prop
  ex : DX
  bk : DEn → Prop := fun _ => False
  ct : DEn → Prop := fun _ => False
noncomputable abbrev DS := DEnds → DEn → Prop
structure Lk (K : PySem.W.Frag) (H₀ G : Hp) (e : DEnds) (D : Ends) : Prop where
  nx : ∀ δ σ G' H, Same G G' → Sees K H₀ G' δ σ H → e.nx δ → D.nx σ H
  rt : ∀ v s H, Same H₀ H → RetIs K H₀ H v s → e.rt s → D.rt v H
  bk : ∀ δ σ G' H, Same G G' → Sees K H₀ G' δ σ H → e.bk δ → D.bk σ H
  ct : ∀ δ σ G' H, Same G G' → Sees K H₀ G' δ σ H → e.ct δ → D.ct σ H
theorem Lk.mono {K : PySem.W.Frag} {H₀ G G1 : Hp} {e : DEnds} {D : Ends} (L : Lk K H₀ G e D) (s : Same G G1) : Lk K H₀ G1 e D :=
  ⟨fun δ σ G' H t => L.nx δ σ G' H (s.trans t), L.rt, fun δ σ G' H t => L.bk δ σ G' H (s.trans t), fun δ σ G' H t => L.ct δ σ G' H (s.trans t)⟩
noncomputable def SvD (K : PySem.W.Frag) (H₀ : Hp) (E : XK) (ts : TS) (ds : DS) : Prop := ∀ δ σ G H e D, ExOk H₀ E e.ex → Sees K H₀ G δ σ H → ds e δ → Lk K H₀ G e D → ts D σ H
noncomputable abbrev DG := PyData → DEn → (DEn → Prop) → Prop
noncomputable abbrev DGs := List PyData → DEn → (DEn → Prop) → Prop
noncomputable def Kp (ns : List Nat) (σ σ' : L2.St) : Prop := σ'.length = σ.length ∧ ∀ j, j ∉ ns → σ'[j]? = σ[j]?
noncomputable def GvD (K : PySem.W.Frag) (H₀ : Hp) (g : TG) (ns : List Nat) (dg : DG) : Prop := ∀ v d δ σ G H Qd Q, Sees K H₀ G δ σ H → DV K G v d → dg d δ Qd → (∀ δ' σ', Sees K H₀ G δ' σ' H → Kp ns σ σ' → Qd δ' → Q σ' H) → g v σ H Q
noncomputable def GsvD (K : PySem.W.Frag) (H₀ : Hp) (g : TGs) (ns : List Nat) (dg : DGs) : Prop := ∀ vs ds δ σ G H Qd Q, Sees K H₀ G δ σ H → DVs K G vs ds → dg ds δ Qd → (∀ δ' σ', Sees K H₀ G δ' σ' H → Kp ns σ σ' → Qd δ' → Q σ' H) → g vs σ H Q
section
variable {K : PySem.W.Frag} {H₀ : Hp} {E : XK} {te ta tb : TE} {da db de : DE} {dl dk : DL} {t : TA} {tt tu : TT} {dt du : DT} {ts tz : TS} {ds dz : DS} {g : TG} {dg : DG} {gs : TGs} {dgs : DGs} {ns ms : List Nat}
noncomputable def dNext (e : DEnds) (δ : DEn) : Prop := e.nx δ
noncomputable def dSeq (d1 d2 : DS) (e : DEnds) (δ : DEn) : Prop := d1 { e with nx := d2 e } δ
noncomputable def dCut (d1 d2 : DS) (e : DEnds) (δ : DEn) : Prop := ∃ I : DEn → Prop, d1 { e with nx := I } δ ∧ ∀ δ', I δ' → d2 e δ'
theorem sv_next : SvD K H₀ E tNext dNext := fun δ σ G H e D hx S q L => L.nx δ σ G H (Same.refl _) S q
theorem sv_seq (h1 : SvD K H₀ E ts ds) (h2 : SvD K H₀ E tz dz) : SvD K H₀ E (tSeq ts tz) (dSeq ds dz) := fun δ σ G H e D hx S q L =>
  h1 δ σ G H { e with nx := dz e } { D with nx := tz D } hx S q ⟨fun δ' σ' G' H' s S' q' => h2 δ' σ' G' H' e D hx S' q' (L.mono s), L.rt, L.bk, L.ct⟩
theorem sv_cut (h1 : SvD K H₀ E ts ds) (h2 : SvD K H₀ E tz dz) : SvD K H₀ E (tSeq ts tz) (dCut ds dz) := fun δ σ G H e D hx S ⟨I, q, qi⟩ L =>
  h1 δ σ G H { e with nx := I } { D with nx := tz D } hx S q ⟨fun δ' σ' G' H' s S' q' => h2 δ' σ' G' H' e D hx S' (qi δ' q') (L.mono s), L.rt, L.bk, L.ct⟩
noncomputable def dRet (de : DE) (e : DEnds) (δ : DEn) : Prop := de e.ex δ fun d => e.rt (.dat d)
noncomputable def dRetO (dl : DL) (e : DEnds) (δ : DEn) : Prop := dl e.ex δ fun ds => e.rt (.own ds)
noncomputable def dRetV (i : Nat) (e : DEnds) (δ : DEn) : Prop := match slot δ i with
  | some (.dat d) => e.rt (.dat d)
  | some (.own ds) => e.rt (.own ds)
  | _ => False
theorem ret_of_own {G H : Hp} {a : Addr} {vs : List V} {ds : List PyData} (h0 : H₀ a = none) (hg : G a = none) (s : Sub G H) (hh : H a = some (.lst vs)) (hd : DVs K G vs ds) : RetIs K H₀ H (.ref a) (.own ds) :=
  ⟨a, vs, rfl, h0, hh, dvs_same (fun b o z => by
    unfold rm
    rw [if_neg (ne_of_none z hg)]
    exact s.same b o z) hd⟩
theorem sv_ret (h : BvD K H₀ E te de) : SvD K H₀ E (tRet te) (dRet de) := fun δ σ G H e D hx S q L =>
  h e.ex δ σ G H _ _ hx S q fun v d G' H' x hd qd => L.rt v (.dat d) H' (S.ext x).oldH hd qd
theorem sv_retO (h : OvD K H₀ E te dl) : SvD K H₀ E (tRet te) (dRetO dl) := fun δ σ G H e D hx S q L =>
  h e.ex δ σ G H _ _ hx S q fun a vs ds G' H' x hn hg hh hd qd => L.rt (.ref a) (.own ds) H' (S.ext x).oldH (ret_of_own (S.oldH.free hn) hg x.s hh hd) qd
theorem sv_retV (i : Nat) : SvD K H₀ E (tRet (tVar i)) (dRetV i) := fun δ σ G H e D hx S q L => by
  unfold dRetV at q
  split at q
  · rename_i d hs
    obtain ⟨v, h1, h2⟩ := S.has i _ hs
    exact ⟨v, h1, L.rt v (.dat d) H S.oldH (dv_same S.sub.same h2) q⟩
  · rename_i ds hs
    obtain ⟨v, h1, h2⟩ := S.has i _ hs
    obtain ⟨a, vs, rfl, h3, h4, h5⟩ := h2
    exact ⟨_, h1, L.rt _ (.own ds) H S.oldH (ret_of_own (S.old.free h3) h3 S.sub h4 h5) q⟩
  · exact q.elim
noncomputable def dDrop (de : DE) (e : DEnds) (δ : DEn) : Prop := de e.ex δ fun _ => e.nx δ
theorem sv_expr (h : BvD K H₀ E te de) : SvD K H₀ E (tDrop te) (dDrop de) := fun δ σ G H e D hx S q L =>
  h e.ex δ σ G H _ _ hx S q fun v d G' H' x hd qd => L.nx δ σ G' H' x.g (S.ext x) qd
noncomputable def dIfS (dt : DT) (d1 d2 : DS) (e : DEnds) (δ : DEn) : Prop := dt e.ex δ fun b => if b = true then d1 e δ else d2 e δ
theorem sv_if (h : TvD K H₀ E tt dt) (h1 : SvD K H₀ E ts ds) (h2 : SvD K H₀ E tz dz) : SvD K H₀ E (tIfS tt ts tz) (dIfS dt ds dz) := fun δ σ G H e D hx S q L =>
  h e.ex δ σ G H _ _ hx S q fun b G' H' x qb => by
    cases b with
    | true => exact h1 δ σ G' H' e D hx (S.ext x) qb (L.mono x.g)
    | false => exact h2 δ σ G' H' e D hx (S.ext x) qb (L.mono x.g)
noncomputable def gvName (i : Nat) (d : PyData) (δ : DEn) (Q : DEn → Prop) : Prop := Q (put (some (.dat d)) i δ)
noncomputable def gvNil (ds : List PyData) (δ : DEn) (Q : DEn → Prop) : Prop := match ds with
  | [] => Q δ
  | _ => False
noncomputable def gvCons (dg : DG) (dgs : DGs) (ds : List PyData) (δ : DEn) (Q : DEn → Prop) : Prop := match ds with
  | d :: r => dg d δ fun δ' => dgs r δ' Q
  | [] => False
noncomputable def gvTup (n : Nat) (dgs : DGs) (d : PyData) (δ : DEn) (Q : DEn → Prop) : Prop := match d with
  | .tuple ds => ds.length = n ∧ dgs ds δ Q
  | _ => False
theorem gv_name (i : Nat) : GvD K H₀ (gName i) [i] (gvName i) := fun v d δ σ G H Qd Q S hd q k =>
  k _ _ (S.setD i hd) ⟨List.length_set, fun j hj => by rw [List.getElem?_set_ne (fun z => hj (by simp [z]))]⟩ q
theorem gs_nil : GsvD K H₀ gNil [] gvNil := fun vs ds δ σ G H Qd Q S hd q k => by
  unfold gvNil at q
  split at q
  · cases hd
    exact ⟨rfl, k δ σ S ⟨rfl, fun _ _ => rfl⟩ q⟩
  · exact q.elim
theorem gs_cons (h1 : GvD K H₀ g ns dg) (h2 : GsvD K H₀ gs ms dgs) : GsvD K H₀ (gCons g gs) (ns ++ ms) (gvCons dg dgs) := fun vs ds δ σ G H Qd Q S hd q k => by
  unfold gvCons at q
  split at q
  · cases hd with
    | cons hd hr =>
      refine ⟨_, _, rfl, h1 _ _ δ σ G H _ _ S hd q fun δ1 σ1 S1 k1 q1 => h2 _ _ δ1 σ1 G H _ _ S1 hr q1 fun δ2 σ2 S2 k2 q2 => k δ2 σ2 S2 ⟨k2.1.trans k1.1, fun j hj => ?_⟩ q2⟩
      rw [k2.2 j (fun z => hj (List.mem_append_right _ z)), k1.2 j (fun z => hj (List.mem_append_left _ z))]
  · exact q.elim
theorem gv_tup {n : Nat} (h : GsvD K H₀ gs ns dgs) : GvD K H₀ (gTup K n gs) ns (gvTup n dgs) := fun v d δ σ G H Qd Q S hd q k => by
  unfold gvTup at q
  split at q
  · obtain ⟨a, vs, rfl, h1, h2⟩ := dv_tuple hd
    exact ⟨a, vs, rfl, sqT_same S.sub.same h1, by rw [h2.len]; exact q.1, h _ _ δ σ G H _ _ S h2 q.2 k⟩
  · exact q.elim
noncomputable def dAsg (de : DE) (dg : DG) (e : DEnds) (δ : DEn) : Prop := de e.ex δ fun d => dg d δ e.nx
theorem sv_asg (h : EvD K H₀ E te de) (hg : GvD K H₀ g ns dg) : SvD K H₀ E (tAsg te g) (dAsg de dg) := fun δ σ G H e D hx S q L =>
  h e.ex δ σ G H _ _ hx S q fun v d G' H' x hd qd => hg v d δ σ G' H' _ _ (S.ext x) hd qd fun δ' σ' S' _ q' => L.nx δ' σ' G' H' x.g S' q'
noncomputable def dSetO (dl : DL) (i : Nat) (e : DEnds) (δ : DEn) : Prop := dl e.ex δ fun ds => e.nx (put (some (.own ds)) i δ)
theorem sv_setO (i : Nat) (h : OvD K H₀ E te dl) : SvD K H₀ E (tAsg te (gName i)) (dSetO dl i) := fun δ σ G H e D hx S q L =>
  h e.ex δ σ G H _ _ hx S q fun a vs ds G' H' x hn hg hh hd qd => L.nx _ _ G' H' x.g (S.setO x i hn hg hh hd) qd
noncomputable def noOwn : DEn → Bool
  | [] => true
  | some (.own _) :: _ => false
  | _ :: r => noOwn r
theorem noOwn_slot : ∀ {δ : DEn} {i : Nat} {ds : List PyData}, noOwn δ = true → slot δ i ≠ some (.own ds)
  | [], _, _, _, h => by cases h
  | some (.own _) :: _, _, _, h, _ => by cases h
  | some (.dat _) :: _, 0, _, _, h => by cases h
  | some (.exc _) :: _, 0, _, _, h => by cases h
  | some (.fz _ _) :: _, 0, _, _, h => by cases h
  | some (.fz _ _) :: r, i + 1, ds, h, e => noOwn_slot (δ := r) (i := i) (ds := ds) h e
  | some (.two _ _) :: _, 0, _, _, h => by cases h
  | some (.two _ _) :: r, i + 1, ds, h, e => noOwn_slot (δ := r) (i := i) (ds := ds) h e
  | none :: _, 0, _, _, h => by cases h
  | some (.exc _) :: r, i + 1, ds, h, e => noOwn_slot (δ := r) (i := i) (ds := ds) h e
  | some (.dat _) :: r, i + 1, ds, h, e => noOwn_slot (δ := r) (i := i) (ds := ds) h e
  | none :: r, i + 1, ds, h, e => noOwn_slot (δ := r) (i := i) (ds := ds) h e
theorem Sees.all2 {G H H' : Hp} {δ : DEn} {σ : L2.St} (S : Sees K H₀ G δ σ H) (h : noOwn δ = true) (sm : Same H H') : Sees K H₀ H' δ σ H' :=
  ⟨S.oldH.trans sm, .refl _, S.len, fun i s e => by
    obtain ⟨v, h1, h2⟩ := S.has i s e
    cases s with
    | dat d => exact ⟨v, h1, dv_same (S.sub.same.trans sm) h2⟩
    | two xs ys => exact h2.elim
    | fz as d => exact ⟨v, h1, FzIs.same (S.sub.same.trans sm) h2⟩
    | exc C =>
      obtain ⟨x, rfl, hx⟩ := h2
      exact ⟨_, h1, x, rfl, sm _ _ (S.sub.same _ _ hx)⟩
    | own ds => exact absurd e (noOwn_slot h), fun i j xs ys a e => absurd e (noOwn_slot h)⟩
noncomputable def dAsgN0 (w : DW) (dl : DL) (dg : DG) (e : DEnds) (δ : DEn) : Prop := dl e.ex δ fun ds => noOwn δ = true ∧ w ds (anyS fun d => dg d δ e.nx) fun _ => False
theorem sv_asgN0 {w : DW} (ha : AvD K H₀ E t dl) (hg : GvD K H₀ g ns dg) : SvD K H₀ E (tAsg (tCall (spW K w) [] E0 t) g) (dAsgN0 w dl dg) := fun δ σ G H e D hx S q L =>
  ha e.ex δ σ G H _ _ hx S q fun vs ds G1 H1 e1 h1 ⟨no, q1⟩ => by
    refine ⟨ds, _, fun _ => False, by rw [List.append_nil]; exact h1, q1, fun v s H2 sm r qs => ?_, fun C H2 sm hc => hc.elim⟩
    obtain ⟨d, hd, q2⟩ := ret_any r qs
    exact hg v d δ σ H2 H2 _ _ ((S.ext e1).all2 no sm) hd q2 fun δ' σ' S' _ q' => L.nx δ' σ' H2 H2 ((S.ext e1).sub.same.trans sm |> fun z => e1.g.trans z) S' q'
noncomputable def frzAt (i : Nat) (δ : DEn) : DEn := match slot δ i with
  | some (.own ds) => put (some (.dat (.list ds))) i δ
  | _ => δ
noncomputable def dFrz (i : Nat) (d : DS) (e : DEnds) (δ : DEn) : Prop := d e (frzAt i δ)
theorem sv_frz (i : Nat) (h : SvD K H₀ E ts ds) : SvD K H₀ E ts (dFrz i ds) := fun δ σ G H e D hx S q L => by
  unfold dFrz frzAt at q
  split at q
  · rename_i xs hs
    obtain ⟨G', s, S'⟩ := S.frz hs
    exact h _ σ G' H e D hx S' q (L.mono s)
  · exact h δ σ G H e D hx S q L
noncomputable def dPar (i j : Nat) (dl : DL) (e : DEnds) (δ : DEn) : Prop := dl e.ex δ fun ds => match ds with
  | [d1, d2] => e.nx (put (some (.dat d2)) j (put (some (.dat d1)) i δ))
  | _ => False
theorem sv_par {n : Nat} (i j : Nat) (h : AvE K H₀ E t n dl) : SvD K H₀ E (tPar i j t) (dPar i j dl) := fun δ σ G H e D hx S q L =>
  h e.ex δ σ G H _ _ hx S q fun vs ds G' H' x hd _ qd => by
    split at qd
    · obtain ⟨v, w, rfl, h1, h2⟩ := dvs2 hd
      exact ⟨v, w, rfl, L.nx _ _ G' H' x.g (((S.ext x).setD i h1).setD j h2) qd⟩
    · exact qd.elim
noncomputable def dRaise (C : Addr) (dl : DL) (e : DEnds) (δ : DEn) : Prop := dl e.ex δ fun _ => e.ex C
theorem sv_raise {C : Addr} {n : Nat} (h : AvE K H₀ E t n dl) (hn : n ≤ 1000) : SvD K H₀ E (tRaise E C t) (dRaise C dl) := fun δ σ G H e D hx S q L =>
  h e.ex δ σ G H _ _ hx S q fun vs ds G' H' x hd q0 qd => ⟨Nat.le_of_lt (small1000 (by rw [hd.len, q0]; exact hn)), hx C H' (S.ext x).oldH qd⟩
noncomputable def dApp (i : Nat) (de : DE) (e : DEnds) (δ : DEn) : Prop := match slot δ i with
  | some (.own ds) => de e.ex δ fun d => ds.length < 1000 ∧ e.nx (put (some (.own (ds ++ [d]))) i δ)
  | _ => False
theorem sv_app (i : Nat) (h : EvD K H₀ E te de) : SvD K H₀ E (tDrop (tBM K "list" rAppend (tVar i) (tCons te tNil))) (dApp i de) := fun δ σ G H e D hx S q L => by
  unfold dApp at q
  split at q
  · rename_i ds hs
    obtain ⟨a, vs, h1, h2, h3, h4⟩ := S.ownAt hs
    refine ⟨_, h1, .inl ⟨rfl, _, SqL.of h3⟩, h e.ex δ σ G H _ _ hx S q fun v d G' H' x hd qd => ?_⟩
    obtain ⟨q1, q2⟩ := qd
    have S' := S.ext x
    exact ⟨a, vs, v, rfl, rfl, x.h _ _ h3, small1000 (by rw [h4.len]; omega), L.nx _ _ G' _ x.g (S'.updO hs h1 ((dvs_same x.g h4).append (.cons hd .nil))) q2⟩
  · exact q.elim
noncomputable def ItS (K : PySem.W.Frag) (J : It) (G : Hp) (ds : List PyData) : Prop := ∀ G' H', Same G G' → Sub G' H' → ∀ i,
  (∀ d, ds[i]? = some d → J.go i H' ∧ ∀ x H2, J.yld i H' x H2 → ∃ G2, Ext G' H' G2 H2 ∧ DV K G2 x d) ∧ (ds.length ≤ i → J.stop i H')
noncomputable def ItE (K : PySem.W.Frag) (J : It) (G H : Hp) (ds : List PyData) : Prop := ∀ G' H', Ext G H G' H' → ∀ i,
  (∀ d, ds[i]? = some d → J.go i H' ∧ ∀ x H2, J.yld i H' x H2 → ∃ G2, Ext G' H' G2 H2 ∧ DV K G2 x d) ∧ (ds.length ≤ i → J.stop i H')
theorem ItS.e {J : It} {G H : Hp} {ds : List PyData} (h : ItS K J G ds) : ItE K J G H ds := fun G' H' e => h G' H' e.g e.s
noncomputable def IvS (K : PySem.W.Frag) (H₀ : Hp) (E : XK) (wi : TI) (dl : DL) : Prop := ∀ ex δ σ G H Qd R, ExOk H₀ E ex → Sees K H₀ G δ σ H → dl ex δ Qd → (∀ J ds G' H', Ext G H G' H' → ItS K J G' ds → Qd ds → R J H') → wi σ H R
noncomputable def IvE (K : PySem.W.Frag) (H₀ : Hp) (E : XK) (wi : TI) (dl : DL) : Prop := ∀ ex δ σ G H Qd R, ExOk H₀ E ex → Sees K H₀ G δ σ H → dl ex δ Qd → (∀ J ds G' H', Ext G H G' H' → ItE K J G' H' ds → Qd ds → R J H') → wi σ H R
theorem IvS.e {wi : TI} (h : IvS K H₀ E wi dl) : IvE K H₀ E wi dl := fun ex δ σ G H Qd R hx S q k => h ex δ σ G H Qd R hx S q fun J ds G' H' e hi qd => k J ds G' H' e hi.e qd
theorem is_list (h : EvD K H₀ E te de) : IvS K H₀ E (iList K te) (dAsL de) := fun ex δ σ G H Qd R hx S q k =>
  h ex δ σ G H _ _ hx S q fun v d G' H' e hd qd => by
    cases d with
    | list ds =>
      obtain ⟨a, vs, rfl, h1, h2⟩ := dv_list hd
      refine ⟨a, rfl, ⟨vs, e.s.same.seq h1⟩, k _ ds G' H' e (fun G2 H2 s1 s2 i => ⟨fun d hi => ?_, fun hi => ⟨vs, s2.same.seq (s1.seq h1), by rw [h2.len]; exact hi⟩⟩) qd⟩
      obtain ⟨x, g1, g2⟩ := h2.at hi
      refine ⟨⟨vs, x, s2.same.seq (s1.seq h1), g1⟩, fun y H3 ⟨z, w⟩ => ?_⟩
      subst z
      have := w vs (s2.same.seq (s1.seq h1))
      rw [g1] at this
      cases this
      exact ⟨G2, .refl s2, dv_same s1 g2⟩
    | _ => exact qd.elim
theorem ie_list (h : LvD K H₀ E te dl) : IvE K H₀ E (iList K te) dl := fun ex δ σ G H Qd R hx S q k =>
  h ex δ σ G H _ _ hx S q fun a vs ds G' H' e h1 h2 qd => by
    refine ⟨a, rfl, ⟨vs, h1⟩, k _ ds G' H' e (fun G2 H2 e2 i => ⟨fun d hi => ?_, fun hi => ⟨vs, e2.h.seq h1, by rw [h2.len]; exact hi⟩⟩) qd⟩
    obtain ⟨x, g1, g2⟩ := h2.at hi
    refine ⟨⟨vs, x, e2.h.seq h1, g1⟩, fun y H3 ⟨z, w⟩ => ?_⟩
    subst z
    have := w vs (e2.h.seq h1)
    rw [g1] at this
    cases this
    exact ⟨G2, .refl e2.s, dv_same e2.g g2⟩
noncomputable def rngD (lo : Int) (n : Nat) (st : Int) : List PyData := (List.range n).map fun (k : Nat) => PyData.int (lo + (k : Int) * st)
theorem rngD_at {lo st : Int} {n i : Nat} {d : PyData} (h : (rngD lo n st)[i]? = some d) : i < n ∧ d = .int (lo + (i : Int) * st) := by
  unfold rngD at h
  rw [List.getElem?_map] at h
  cases q : (List.range n)[i]? with
  | none => rw [q] at h; cases h
  | some k =>
    rw [q] at h
    obtain ⟨h1, h2⟩ := List.getElem?_eq_some_iff.mp q
    simp only [List.getElem_range] at h2
    subst h2
    simp only [List.length_range] at h1
    simp only [Option.map_some, Option.some.injEq] at h
    exact ⟨h1, h.symm⟩
theorem rngD_len {lo st : Int} {n : Nat} : (rngD lo n st).length = n := by simp [rngD]
noncomputable def dRng1 (dl : DL) (ex : DX) (δ : DEn) (Q : List PyData → Prop) : Prop := dl ex δ fun ds => match ds with
  | [.int j] => (-(2 ^ 62) ≤ j ∧ j < 2 ^ 62) ∧ Q (rngD 0 j.toNat 1)
  | _ => False
noncomputable def dRng2 (dl : DL) (ex : DX) (δ : DEn) (Q : List PyData → Prop) : Prop := dl ex δ fun ds => match ds with
  | [.int i, .int j] => (-(2 ^ 62) ≤ i ∧ i < 2 ^ 62 ∧ -(2 ^ 62) ≤ j ∧ j < 2 ^ 62) ∧ Q (rngD i (j - i).toNat 1)
  | _ => False
theorem itS_r {lo : Int} {n : Nat} {G : Hp} : ItS K (Itr lo n) G (rngD lo n 1) := fun G' H' s1 s2 i => ⟨fun d hi => by
    obtain ⟨h1, rfl⟩ := rngD_at hi
    refine ⟨h1, fun x H2 ⟨e1, e2⟩ => ?_⟩
    subst e1 e2
    rw [Int.mul_one]
    exact ⟨G', .refl s2, .int _⟩, fun hi => by rw [rngD_len] at hi; exact hi⟩
theorem is_rng1 (h : AvD K H₀ E t dl) : IvS K H₀ E (iRng1 t) (dRng1 dl) := fun ex δ σ G H Qd R hx S q k =>
  h ex δ σ G H _ _ hx S q fun vs ds G' H' e hd qd => by
    split at qd
    · obtain ⟨x, rfl, h1⟩ := dvs1 hd
      cases dv_int h1
      exact ⟨_, rfl, qd.1.1, qd.1.2, k _ _ G' H' e itS_r qd.2⟩
    · exact qd.elim
theorem is_rng2 (h : AvD K H₀ E t dl) : IvS K H₀ E (iRng2 t) (dRng2 dl) := fun ex δ σ G H Qd R hx S q k =>
  h ex δ σ G H _ _ hx S q fun vs ds G' H' e hd qd => by
    split at qd
    · obtain ⟨x, y, rfl, h1, h2⟩ := dvs2 hd
      cases dv_int h1; cases dv_int h2
      exact ⟨_, _, rfl, qd.1, k _ _ G' H' e itS_r qd.2⟩
    · exact qd.elim
noncomputable def dFor (dl : DL) (dg : DG) (db : DS) (e : DEnds) (δ : DEn) : Prop := dl e.ex δ fun ds => ∃ I : Nat → DEn → Prop, I 0 δ ∧
  (∀ i d δ', ds[i]? = some d → I i δ' → dg d δ' fun δ2 => db { e with nx := I (i + 1), ct := I (i + 1), bk := e.nx } δ2) ∧ ∀ δ', I ds.length δ' → e.nx δ'
theorem sv_for {wi : TI} (hi : IvS K H₀ E wi dl) (hg : GvD K H₀ g ns dg) (hb : SvD K H₀ E ts ds) : SvD K H₀ E (tFor wi g ts) (dFor dl dg ds) := fun δ σ G H e D hx S q L =>
  hi e.ex δ σ G H _ _ hx S q fun J xs G1 H1 e1 it ⟨I, i0, step, fin⟩ => by
    refine ⟨fun i m σ H => m = xs.length - i ∧ i ≤ xs.length ∧ ∃ δ' G', Same G1 G' ∧ Sees K H₀ G' δ' σ H ∧ I i δ', ⟨_, rfl, Nat.zero_le _, δ, G1, Same.refl _, S.ext e1, i0⟩, ?_⟩
    rintro i m σ' H' ⟨rfl, hil, δ', G', sg, S', hI⟩
    obtain ⟨t1, t2⟩ := it G' H' sg S'.sub i
    by_cases hlt : i < xs.length
    · obtain ⟨g1, g2⟩ := t1 _ (List.getElem?_eq_getElem hlt)
      refine .inr ⟨g1, fun σ H => ∃ δ' G', Same G1 G' ∧ Sees K H₀ G' δ' σ H ∧ I (i + 1) δ', fun σ2 H2 z => ⟨_, by omega, rfl, hlt, z⟩, fun x H2 y => ?_⟩
      obtain ⟨G2, e2, hd⟩ := g2 x H2 y
      have S2 := S'.ext e2
      refine hg x _ δ' σ' G2 H2 _ _ S2 hd (step i _ δ' (List.getElem?_eq_getElem hlt) hI) fun δ3 σ3 S3 _ q3 => ?_
      have up : Same G1 G2 := sg.trans e2.g
      exact hb δ3 σ3 G2 H2 { e with nx := I (i + 1), ct := I (i + 1), bk := e.nx } _ hx S3 q3 ⟨fun δ4 σ4 G4 H4 s4 S4 q4 => ⟨δ4, G4, up.trans s4, S4, q4⟩, L.rt, fun δ4 σ4 G4 H4 s4 S4 q4 => L.nx δ4 σ4 G4 H4 (e1.g.trans (up.trans s4)) S4 q4, fun δ4 σ4 G4 H4 s4 S4 q4 => ⟨δ4, G4, up.trans s4, S4, q4⟩⟩
    · have : i = xs.length := by omega
      subst this
      exact .inl ⟨t2 (Nat.le_refl _), L.nx δ' σ' G' H' (e1.g.trans sg) S' (fin δ' hI)⟩
noncomputable def dWhile (dt : DT) (db : DS) (e : DEnds) (δ : DEn) : Prop := ∃ I : Nat → DEn → Prop, (∃ m, I m δ) ∧ ∀ m δ', I m δ' →
  dt e.ex δ' fun b => if b = true then db { e with nx := fun δ2 => ∃ k, k < m ∧ I k δ2, ct := fun δ2 => ∃ k, k < m ∧ I k δ2, bk := e.nx } δ' else e.nx δ'
theorem sv_while (h : TvD K H₀ E tt dt) (hb : SvD K H₀ E ts ds) : SvD K H₀ E (tWhile tt ts) (dWhile dt ds) := fun δ σ G H e D hx S ⟨I, ⟨m0, i0⟩, step⟩ L => by
  refine ⟨fun m σ H => ∃ δ' G', Same G G' ∧ Sees K H₀ G' δ' σ H ∧ I m δ', ⟨m0, δ, G, Same.refl _, S, i0⟩, ?_⟩
  rintro m σ' H' ⟨δ', G', sg, S', hI⟩
  refine h e.ex δ' σ' G' H' _ _ hx S' (step m δ' hI) fun b G2 H2 e2 q2 => ?_
  have S2 := S'.ext e2
  have up : Same G G2 := sg.trans e2.g
  cases b with
  | true =>
    have n1 : ∀ δ4 σ4 G4 H4, Same G2 G4 → Sees K H₀ G4 δ4 σ4 H4 → (∃ k, k < m ∧ I k δ4) → ∃ k, k < m ∧ ∃ δ' G', Same G G' ∧ Sees K H₀ G' δ' σ4 H4 ∧ I k δ' := fun δ4 σ4 G4 H4 s4 S4 ⟨k, hk, q4⟩ => ⟨k, hk, δ4, G4, up.trans s4, S4, q4⟩
    exact ⟨fun σ4 H4 => ∃ k, k < m ∧ ∃ δ' G', Same G G' ∧ Sees K H₀ G' δ' σ4 H4 ∧ I k δ', fun _ _ z => z, hb δ' σ' G2 H2 { e with nx := fun δ2 => ∃ k, k < m ∧ I k δ2, ct := fun δ2 => ∃ k, k < m ∧ I k δ2, bk := e.nx } _ hx S2 q2 ⟨n1, L.rt, fun δ4 σ4 G4 H4 s4 S4 q4 => L.nx δ4 σ4 G4 H4 (up.trans s4) S4 q4, n1⟩⟩
  | false => exact L.nx δ' σ' G2 H2 up S2 q2
noncomputable def capD (cap : List (Option Nat)) (δ : DEn) : DEn := match cap with
  | [] => []
  | none :: r => none :: capD r δ
  | some i :: r => slot δ i :: capD r δ
theorem capD_len : ∀ (cap : List (Option Nat)) (δ : DEn), (capD cap δ).length = cap.length
  | [], _ => rfl
  | none :: r, δ => by simp [capD, capD_len r δ]
  | some i :: r, δ => by simp [capD, capD_len r δ]
theorem capD_slot : ∀ {cap : List (Option Nat)} {δ : DEn} {j : Nat} {s : Sl}, slot (capD cap δ) j = some s → ∃ i, cap[j]? = some (some i) ∧ slot δ i = some s
  | [], _, _, _, h => by cases h
  | none :: r, δ, 0, s, h => by cases h
  | some i :: r, δ, 0, s, h => ⟨i, rfl, h⟩
  | none :: r, δ, j + 1, s, h => by
    obtain ⟨i, h1, h2⟩ := capD_slot (cap := r) (δ := δ) (j := j) h
    exact ⟨i, by simpa using h1, h2⟩
  | some _ :: r, δ, j + 1, s, h => by
    obtain ⟨i, h1, h2⟩ := capD_slot (cap := r) (δ := δ) (j := j) h
    exact ⟨i, by simpa using h1, h2⟩
theorem cap_mem {cap : List (Option Nat)} {j i : Nat} (h : cap[j]? = some (some i)) : i ∈ cap.filterMap id := List.mem_filterMap.mpr ⟨some i, List.mem_of_getElem? h, rfl⟩
theorem cap_inj : ∀ {cap : List (Option Nat)} {j k i : Nat}, (cap.filterMap id).Nodup → cap[j]? = some (some i) → cap[k]? = some (some i) → j = k
  | [], _, _, _, _, h, _ => by simp at h
  | none :: r, 0, _, _, _, h, _ => by simp at h
  | none :: r, _ + 1, 0, _, _, _, h => by simp at h
  | none :: r, j + 1, k + 1, i, n, h1, h2 => congrArg (· + 1) (cap_inj (cap := r) (by simpa using n) (by simpa using h1) (by simpa using h2))
  | some a :: r, 0, 0, _, _, _, _ => rfl
  | some a :: r, 0, k + 1, i, n, h1, h2 => by
    have e : a = i := by simpa using h1
    subst e
    have : a ∈ r.filterMap id := cap_mem (by simpa using h2)
    simp only [List.filterMap_cons, id, List.nodup_cons] at n
    exact absurd this n.1
  | some a :: r, j + 1, 0, i, n, h1, h2 => by
    have e : a = i := by simpa using h2
    subst e
    have : a ∈ r.filterMap id := cap_mem (by simpa using h1)
    simp only [List.filterMap_cons, id, List.nodup_cons] at n
    exact absurd this n.1
  | some a :: r, j + 1, k + 1, i, n, h1, h2 => congrArg (· + 1) (cap_inj (cap := r) (by
      simp only [List.filterMap_cons, id, List.nodup_cons] at n
      exact n.2) (by simpa using h1) (by simpa using h2))
noncomputable def CapSt (cap : List (Option Nat)) (σ σc : L2.St) : Prop := σc.length = cap.length ∧ ∀ (j i : Nat), cap[j]? = some (some i) → σc[j]? = some ((σ[i]?).bind id)
theorem capst0 {cap : List (Option Nat)} {σ : L2.St} : CapSt cap σ (capσ cap σ) := ⟨by simp [capσ], fun j i h => by
  unfold capσ
  rw [List.getElem?_map, h]
  rfl⟩
theorem capSees {cap : List (Option Nat)} {G H G' H' : Hp} {δ : DEn} {σ σc : L2.St} (S : Sees K H₀ G δ σ H) (e : Ext G H G' H') (hn : (cap.filterMap id).Nodup) (c : CapSt cap σ σc) : Sees K H₀ G' (capD cap δ) σc H' := by
  have S' := S.ext e
  refine ⟨S'.old, S'.sub, by rw [capD_len, c.1]; exact Nat.le_refl _, fun j s h => ?_, fun j k xs ys a h1 h2 e1 e2 => ?_⟩
  · obtain ⟨i, h1, h2⟩ := capD_slot h
    obtain ⟨v, h3, h4⟩ := S'.has i s h2
    refine ⟨v, ?_, h4⟩
    rw [c.2 j i h1, h3]
    rfl
  · obtain ⟨i, g1, g2⟩ := capD_slot h1
    obtain ⟨i', g3, g4⟩ := capD_slot h2
    obtain ⟨b, _, q1, _⟩ := S'.ownAt g2
    obtain ⟨b', _, q2, _⟩ := S'.ownAt g4
    rw [c.2 j i g1, q1] at e1
    rw [c.2 k i' g3, q2] at e2
    have z1 : b = a := by cases e1; rfl
    have z2 : b' = a := by cases e2; rfl
    subst z1; subst z2
    have := S'.sep i i' xs ys _ g2 g4 q1 q2
    subst this
    exact cap_inj hn g1 g3
noncomputable def dYes (_ex : DX) (_δ : DEn) (Q : Bool → Prop) : Prop := Q true
theorem tv_yes : TvD K H₀ E tYes dYes := fun ex δ σ G H Qd Q hx S q k => k true G H S.refl q
noncomputable def dLC (dl : DL) (cap : List (Option Nat)) (dg : DG) (dt : DT) (de : DE) (ex : DX) (δ : DEn) (Q : List PyData → Prop) : Prop := dl ex δ fun ds => ds.length ≤ 1000 ∧ ∃ I : Nat → List PyData → Prop, I 0 [] ∧
  (∀ i d acc, ds[i]? = some d → I i acc → dg d (capD cap δ) fun δ2 => dt (fun _ => False) δ2 fun b => if b = true then de (fun _ => False) δ2 fun y => I (i + 1) (acc ++ [y]) else I (i + 1) acc) ∧ ∀ acc, I ds.length acc → Q acc
theorem ov_lc {wi : TI} {cap : List (Option Nat)} (hi : IvE K H₀ E wi dl) (hg : GvD K H₀ g ns dg) (ht : TvD K H₀ E tt dt) (he : EvD K H₀ E te de) (hn : (cap.filterMap id).Nodup) (hns : ns.all (fun j => (cap[j]?.bind id).isNone) = true) : OvD K H₀ E (tLC wi cap g tt te) (dLC dl cap dg dt de) := fun ex δ σ G H Qd Q hx S q k =>
  hi ex δ σ G H _ _ hx S q fun J xs G1 H1 e1 it ⟨hlen, I, i0, step, fin⟩ => by
    intro D hD
    obtain ⟨eD, gD⟩ := ext_newL (xs := []) e1.s hD
    refine ⟨fun i m σc Hc => m = xs.length - i ∧ i ≤ xs.length ∧ CapSt cap σ σc ∧ ∃ G' acc ys, Ext G1 H1 G' Hc ∧ G' D = none ∧ Hc D = some (.lst ys) ∧ DVs K G' ys acc ∧ acc.length ≤ i ∧ I i acc,
      ⟨_, rfl, Nat.zero_le _, capst0, G1, [], [], eD, gD, upd_same, .nil, Nat.le_refl _, i0⟩, ?_⟩
    rintro i m σc Hc ⟨rfl, hil, cs, G', acc, ys, e', gd, hd, hv, hal, hI⟩
    obtain ⟨t1, t2⟩ := it G' Hc e' i
    by_cases hlt : i < xs.length
    · obtain ⟨g1, g2⟩ := t1 _ (List.getElem?_eq_getElem hlt)
      refine .inr ⟨g1, fun σ2 H2 => CapSt cap σ σ2 ∧ ∃ G' acc ys, Ext G1 H1 G' H2 ∧ G' D = none ∧ H2 D = some (.lst ys) ∧ DVs K G' ys acc ∧ acc.length ≤ i + 1 ∧ I (i + 1) acc, fun σ2 H2 z => ⟨_, by omega, rfl, hlt, z⟩, fun x H2 y => ?_⟩
      obtain ⟨G2, e2, hx2⟩ := g2 x H2 y
      have S2 : Sees K H₀ G2 (capD cap δ) σc H2 := capSees S (e1.trans (e'.trans e2)) hn cs
      refine hg x _ _ σc G2 H2 _ _ S2 hx2 (step i _ acc (List.getElem?_eq_getElem hlt) hI) fun δ3 σ3 S3 kp q3 => ?_
      have cs3 : CapSt cap σ σ3 := ⟨kp.1.trans cs.1, fun j z hj => by
        rw [kp.2 j (fun hm => by
          have := List.all_eq_true.mp hns j hm
          rw [hj] at this
          cases this)]
        exact cs.2 j z hj⟩
      refine ht (fun _ => False) δ3 σ3 G2 H2 _ _ exok0 S3 q3 fun b G4 H4 e4 q4 => ?_
      cases b with
      | true =>
        refine he (fun _ => False) δ3 σ3 G4 H4 _ _ exok0 (S3.ext e4) q4 fun y dy G5 H5 e5 hy q5 => ?_
        have e25 : Ext G' Hc G5 H5 := e2.trans (e4.trans e5)
        have gd5 : G5 D = none := e25.keep gd hd
        have hd5 : H5 D = some (.lst ys) := e25.h _ _ hd
        have e15 : Ext G1 H1 G5 H5 := e'.trans e25
        refine ⟨ys, hd5, small1000 (by rw [hv.len]; omega), cs3, G5, acc ++ [dy], ys ++ [y], ⟨e15.g, fun b o z => ?_, fun b => ?_, e15.n⟩, gd5, upd_same, (dvs_same e25.g hv).append (.cons hy .nil), by rw [List.length_append]; simp; exact hal, q5⟩
        · rw [upd_ne (ne_of_none z hD)]; exact e15.h b o z
        · by_cases w : b = D
          · subst w; exact .inr ⟨gd5, _, upd_same⟩
          · rw [upd_ne w]; exact e15.s b
      | false =>
        have e24 : Ext G' Hc G4 H4 := e2.trans e4
        exact ⟨cs3, G4, acc, ys, e'.trans e24, e24.keep gd hd, e24.h _ _ hd, dvs_same e24.g hv, Nat.le_succ_of_le hal, q4⟩
    · have : i = xs.length := by omega
      subst this
      exact .inl ⟨t2 (Nat.le_refl _), k D ys acc G' Hc (e1.trans e') (e1.h.free hD) gd hd hv (fin acc hI)⟩
end
noncomputable def startN : List Str → List PyData → DEn
  | [], _ => []
  | _ :: N, [] => none :: startN N []
  | _ :: N, d :: ds => some (.dat d) :: startN N ds
theorem startN_len : ∀ (N : List Str) (ds : List PyData), (startN N ds).length = N.length
  | [], _ => rfl
  | _ :: N, [] => congrArg (· + 1) (startN_len N [])
  | _ :: N, _ :: ds => congrArg (· + 1) (startN_len N ds)
theorem startN_slot : ∀ {N : List Str} {ds : List PyData} {i : Nat} {s : Sl}, slot (startN N ds) i = some s → ∃ d, ds[i]? = some d ∧ s = .dat d
  | [], _, _, _, h => by cases h
  | _ :: N, [], 0, _, h => by cases h
  | _ :: N, [], i + 1, s, h => by
    obtain ⟨d, h1, _⟩ := startN_slot (N := N) (ds := []) (i := i) h
    simp at h1
  | _ :: N, d :: ds, 0, s, h => by cases h; exact ⟨d, rfl, rfl⟩
  | _ :: N, _ :: ds, i + 1, s, h => by
    obtain ⟨d, h1, h2⟩ := startN_slot (N := N) (ds := ds) (i := i) h
    exact ⟨d, by simpa using h1, h2⟩
theorem sees_start {K : PySem.W.Frag} {H : Hp} {N : List Str} {vs : List V} {ds : List PyData} (h : DVs K H vs ds) : Sees K H H (startN N ds) (L2.start N vs) H := by
  refine ⟨Same.refl _, .refl _, ?_, fun i s e => ?_, fun i j xs ys a e => ?_⟩
  · rw [startN_len]
    simp only [L2.start, List.length_append, List.length_map, List.length_replicate]
    omega
  · obtain ⟨d, h1, rfl⟩ := startN_slot e
    obtain ⟨v, h2, h3⟩ := h.at h1
    refine ⟨v, ?_, h3⟩
    unfold L2.start
    rw [List.getElem?_append_left (by rw [List.length_map]; exact (List.getElem?_eq_some_iff.mp h2).1), List.getElem?_map, h2]
    rfl
  · obtain ⟨d, _, z⟩ := startN_slot e
    cases z
section
variable {P : Program} {w : World} {K : PySem.W.Frag} {mg : Str → Option Value} {base : Heap}
theorem okW {x qual : Str} {st : Stmt} {f : Addr} {fd : FuncData} {N ps : List Str} {k : Nat} {W : DW} (F : Fun K x qual st f fd) (S : FnScope N ps (defScope st)) (len : ∀ ds Q E, W ds Q E → ds.length = ps.length)
    (hbody : ∀ (cdv : Value) (A : Around) (outer : List Env) (s : Shared) (H : Hp) (E : XK), Room k (A.deeper (envOfC qual (defScope st) s.heap.objs.size f cdv)) →
      ∃ t, PSs (cxOf (CXE P w) P w K mg base N qual (defScope st) f cdv A outer s H E) (defBody st) t ∧ ∃ d, SvD K H E t d ∧ ∀ ds Q X, W ds Q X → d { nx := fun _ => Q (.dat .none), rt := Q, ex := X } (startN N ds)) : FnOk P w K mg base (CXE P w) (k + 1) f fd ps (spW K W) := by
  refine okE F S (fun vs H Q E h => ?_) (fun cdv A outer s H vs Q E hr h => ?_)
  · obtain ⟨ds, Qd, Ed, h1, h2, _⟩ := h
    rw [h1.len]; exact len _ _ _ h2
  · obtain ⟨ds, Qd, Ed, h1, h2, h3, h4⟩ := h
    obtain ⟨t, ht, d, hd, hq⟩ := hbody cdv A outer s H E hr
    refine ⟨t, ht, hd _ _ H H { nx := fun _ => Qd (.dat .none), rt := Qd, ex := Ed } _ h4 (sees_start h1) (hq ds Qd Ed h2) ⟨fun δ σ G H' _ S q => ?_, fun v s H' sm r q => h3 v s H' sm r q, fun _ _ _ _ _ _ z => z.elim, fun _ _ _ _ _ _ z => z.elim⟩⟩
    exact h3 .non (.dat .none) H' S.oldH .non q
end
noncomputable def kinds : List String := ["int", "bool", "str", "list", "tuple"]
theorem kit_of {K : PySem.W.Frag} (d : PyData) (n : String) (hn : kinds.contains n = true) : PySem.W.kitOne K (.type (tyD d)) (.type n) = some (isD n d) := by
  have hm : n = "int" ∨ n = "bool" ∨ n = "str" ∨ n = "list" ∨ n = "tuple" := by
    simpa [kinds] using hn
  have ht : tyD d = "NoneType" ∨ tyD d = "bool" ∨ tyD d = "int" ∨ tyD d = "str" ∨ tyD d = "list" ∨ tyD d = "tuple" ∨ tyD d = "dict" := by
    cases d <;> simp [tyD]
  have key : ∀ t n : String, t ≠ n → (PySem.W.kitOne K (.type t) (.type n) = PySem.W.kitCls K (.type t) (.type n)) := fun t n h => by
    unfold PySem.W.kitOne
    rw [if_neg (by simpa using h)]
  have same : ∀ n : String, PySem.W.kitOne K (.type n) (.type n) = some true := fun n => by
    unfold PySem.W.kitOne
    rw [if_pos (by simp)]
  unfold isD
  generalize tyD d = t at ht
  clear hn
  rcases ht with rfl | rfl | rfl | rfl | rfl | rfl | rfl <;> rcases hm with rfl | rfl | rfl | rfl | rfl <;>
    first
    | exact same _
    | (rw [key _ _ (by decide)]
       unfold PySem.W.kitCls PySem.W.subIn
       dsimp only
       rw [if_pos (by decide +kernel)]
       decide +kernel)
section
variable {X : Cx} {pins : List (Addr × Obj)} {σ : L2.St} {H : Hp} {s : Shared}
theorem isi_dv {A : Around} {Q : Value → Shared → Prop} {Ee : Value → Shared → Prop} {x : V} {d : PyData} {u c : Value} {b : Bool} (I : Inv X pins σ H s) (rx : RelV x u) (h : DV X.K H x d) (e : PySem.W.kitOne X.K (.type (tyD d)) c = some b) (hq : ∀ tk, Q (.bool b) { s with toks := tk }) :
    wpAny (model X.prog X.w) A (call (.builtin "isinstance") [u, c]) Q Ee s := by
  cases h with
  | non => exact isinst_ok I rx .non e hq
  | bl y => exact isinst_ok I rx (.bl y) e hq
  | int y => exact isinst_ok I rx (.int y) e hq
  | str y => exact isinst_ok I rx (.str y) e hq
  | @lst a xs ds hs hd =>
    cases (show u = Value.ref a from rx)
    obtain ⟨its, r, ⟨o, n, ho, hc, _, _⟩, _⟩ := I.list hs
    exact PySem.W.kia_one PySem.W.kitx_list I.kIn ⟨o, ho, hc⟩ e (fun z => nomatch z) hq
  | @tup a xs ds hs hd =>
    cases (show u = Value.ref a from rx)
    obtain ⟨its, r, ⟨o, ho, hc, n, _⟩, _⟩ := I.tuple hs
    exact PySem.W.kia_one PySem.W.kitx_tuple I.kIn ⟨o, ho, hc⟩ e (fun z => nomatch z) hq
  | dct hd => exact isinst_ok I rx (.dK hd) e hq
noncomputable def rIsi (K : PySem.W.Frag) : List V → Hp → VK → Prop := fun xs H Q => ∃ x d n, xs = [x, .ty n] ∧ kinds.contains n = true ∧ DV K H x d ∧ Q (.bl (isD n d)) H
theorem isiDK {K : PySem.W.Frag} (hK : X.K = K) : CallR X (.builtin "isinstance") (rIsi K) := by
  subst hK
  intro pins s σ H xs us Q I r h
  obtain ⟨x, d, n, rfl, hn, hd, q⟩ := h
  obtain ⟨u, v, rfl, ru, rv⟩ := vals2 r
  cases (show v = Value.type n from rv)
  exact isi_dv I ru hd (kit_of d n hn) fun tk => ⟨.bl _, H, I.tok tk, rfl, q⟩
end
section
variable {K : PySem.W.Frag} {H₀ : Hp} {E : XK} {te ta tb : TE} {da db de : DE} {dl dk : DL} {t : TA}
noncomputable def dIsi (n : String) (de : DE) (ex : DX) (δ : DEn) (Q : PyData → Prop) : Prop := de ex δ fun d => Q (.bool (isD n d))
theorem ev_isi {n : String} (hn : kinds.contains n = true) (h : BvD K H₀ E te de) : EvD K H₀ E (tCB (rIsi K) (tCons te (tCons (tC (.ty n)) tNil))) (dIsi n de) := fun ex δ σ G H Qd Q hx S q k =>
  h ex δ σ G H _ _ hx S q fun x d G1 H1 e1 h1 q1 => ⟨x, d, n, rfl, hn, h1, k _ _ G1 H1 e1 (.bl _) q1⟩
noncomputable def MvD (K : PySem.W.Frag) (H₀ : Hp) (E : XK) (te : TE) (dl : DL) : Prop := ∀ ex δ σ G H Qd Q, ExOk H₀ E ex → Sees K H₀ G δ σ H → dl ex δ Qd → (∀ a vs ds G' H', Ext G H G' H' → H' a = some (.lst vs) → DVs K G' vs ds → Qd ds → Q (.ref a) H') → te σ H Q
theorem mv_ov (h : OvD K H₀ E te dl) : MvD K H₀ E te dl := fun ex δ σ G H Qd Q hx S q k =>
  h ex δ σ G H _ Q hx S q fun a vs ds G' H' e hn hg hh hd qd => k a vs ds G' H' e hh hd qd
noncomputable def dMVar (i : Nat) (_ex : DX) (δ : DEn) (Q : List PyData → Prop) : Prop := match slot δ i with
  | some (.own ds) => Q ds
  | _ => False
theorem mv_var (i : Nat) : MvD K H₀ E (tVar i) (dMVar i) := fun ex δ σ G H Qd Q hx S q k => by
  unfold dMVar at q
  split at q
  · rename_i ds hs
    obtain ⟨a, vs, h1, h2, h3, h4⟩ := S.ownAt hs
    exact ⟨_, h1, k a vs ds G H S.refl h3 h4 q⟩
  · exact q.elim
noncomputable def dCat (dl dk : DL) (ex : DX) (δ : DEn) (Q : List PyData → Prop) : Prop := dl ex δ fun xs => dk ex δ fun ys => xs.length + ys.length ≤ 1000 ∧ Q (xs ++ ys)
theorem ov_cat (h1 : MvD K H₀ E ta dl) (h2 : MvD K H₀ E tb dk) : OvD K H₀ E (tOp rCat ta tb) (dCat dl dk) := fun ex δ σ G H Qd Q hx S q k =>
  h1 ex δ σ G H _ _ hx S q fun a vs ds G1 H1 e1 l1 d1 q1 => h2 ex δ σ G1 H1 _ _ hx (S.ext e1) q1 fun b ws es G2 H2 e2 l2 d2 ⟨q2, q3⟩ =>
    ⟨a, b, vs, ws, rfl, rfl, e2.h _ _ l1, l2, Nat.le_of_lt (small1000 (by rw [d1.len, d2.len]; exact q2)), fun p hp => by
      obtain ⟨e3, g3⟩ := ext_newL (xs := vs ++ ws) e2.s hp
      have e0 := e1.trans e2
      exact k p _ _ _ _ (e0.trans e3) (e0.h.free hp) g3 upd_same ((dvs_same e2.g d1).append d2) q3⟩
end
section
variable {dl : DL} {dg : DG} {db d1 d2 : DS} {e : DEnds} {δ : DEn}
theorem seq_mk (h : d1 { e with nx := d2 e } δ) : dSeq d1 d2 e δ := h
theorem cut_mk (I : DEn → Prop) (h : d1 { e with nx := I } δ) (k : ∀ δ', I δ' → d2 e δ') : dCut d1 d2 e δ := ⟨I, h, k⟩
theorem for_map {α : Type} (f : α → PyData) (xs : List α) (hl : ∀ Q, Q (xs.map f) → dl e.ex δ Q) (I : Nat → DEn → Prop) (h0 : I 0 δ)
    (hs : ∀ i x δ', xs[i]? = some x → I i δ' → dg (f x) δ' fun δ2 => db { e with nx := I (i + 1), ct := I (i + 1), bk := e.nx } δ2) (hd : ∀ δ', I xs.length δ' → e.nx δ') : dFor dl dg db e δ :=
  hl _ ⟨I, h0, fun i d δ' hi hI => by
    rw [List.getElem?_map] at hi
    cases q : xs[i]? with
    | none => rw [q] at hi; cases hi
    | some x =>
      rw [q] at hi
      cases hi
      exact hs i x δ' q hI, fun δ' hI => hd δ' (by rw [List.length_map] at hI; exact hI)⟩
theorem for_rng {lo st : Int} {n : Nat} (hl : ∀ Q, Q (rngD lo n st) → dl e.ex δ Q) (I : Nat → DEn → Prop) (h0 : I 0 δ)
    (hs : ∀ i δ', i < n → I i δ' → dg (.int (lo + (i : Int) * st)) δ' fun δ2 => db { e with nx := I (i + 1), ct := I (i + 1), bk := e.nx } δ2) (hd : ∀ δ', I n δ' → e.nx δ') : dFor dl dg db e δ :=
  hl _ ⟨I, h0, fun i d δ' hi hI => by
    obtain ⟨h1, rfl⟩ := rngD_at hi
    exact hs i δ' h1 hI, fun δ' hI => hd δ' (by rw [rngD_len] at hI; exact hI)⟩
variable {dt : DT} {de : DE} {cap : List (Option Nat)} {ex : DX} {Q : List PyData → Prop}
theorem lc_map {α β : Type} (f : α → PyData) (g : β → PyData) (F : α → List β) (xs : List α) (hlen : xs.length ≤ 1000) (hl : ∀ Q, Q (xs.map f) → dl ex δ Q)
    (hs : ∀ x ∈ xs, ∀ N : List PyData → Prop, ∀ acc, N (acc ++ (F x).map g) → dg (f x) (capD cap δ) fun δ2 => dt (fun _ => False) δ2 fun b => if b = true then de (fun _ => False) δ2 fun y => N (acc ++ [y]) else N acc)
    (hd : Q ((xs.flatMap F).map g)) : dLC dl cap dg dt de ex δ Q :=
  hl _ ⟨by rw [List.length_map]; exact hlen, fun i acc => acc = ((xs.take i).flatMap F).map g, by simp, fun i d acc hi hI => by
    rw [List.getElem?_map] at hi
    cases q : xs[i]? with
    | none => rw [q] at hi; cases hi
    | some x =>
      rw [q] at hi
      cases hi
      subst hI
      refine hs x (List.mem_of_getElem? q) (fun acc => acc = ((xs.take (i + 1)).flatMap F).map g) _ ?_
      have e : xs.take (i + 1) = xs.take i ++ [x] := by
        rw [List.take_add_one, q]; rfl
      rw [e]
      simp, fun acc hI => by
    subst hI
    rw [List.length_map, List.take_of_length_le (Nat.le_refl _)]
    exact hd⟩
end
noncomputable abbrev DXS := DEn → Addr → Prop
noncomputable abbrev DSX := DEnds → DXS → DEn → Prop
structure LkX (K : PySem.W.Frag) (H₀ G : Hp) (xd : DXS) (XE : XS) : Prop where
  ex : ∀ δ σ C G' H, Same G G' → Sees K H₀ G' δ σ H → xd δ C → XE σ (.ref C) none H
noncomputable abbrev nox (e : DEnds) : DEnds := { e with ex := fun _ => False }
theorem Lk.nox {K : PySem.W.Frag} {H₀ G : Hp} {e : DEnds} {D : Ends} (L : Lk K H₀ G e D) : Lk K H₀ G (nox e) D := ⟨L.nx, L.rt, L.bk, L.ct⟩
section
variable {K : PySem.W.Frag} {H₀ : Hp} {E : XK} {t : TA} {dl : DL} {ts : TS} {ds : DS} {tb tc : TSX} {db dc : DSX} {tt : TT} {dt : DT}
end
section
variable {K : PySem.W.Frag} {H₀ : Hp} {E : XK} {t : TA} {dl : DL} {ts : TS} {ds : DS} {tb tc : TSX} {db dc : DSX}
end
noncomputable def wLaw : DW := fun ds Q _ => ∃ ns : List Int, ds = [.list (ns.map .int)] ∧ ns.length ≤ 63 ∧ (∀ v ∈ ns, Builtin.Int.intBits v ≤ 1048576) ∧ Q (.dat (.bool true))
theorem dvs_of_ints {K : PySem.W.Frag} {H : Hp} : ∀ ns : List Int, DVs K H (ns.map V.int) (ns.map PyData.int)
  | [] => .nil
  | n :: ns => .cons (.int n) (dvs_of_ints ns)
theorem law_of {P : Program} {w : World} {K : PySem.W.Frag} {mg : Str → Option Value} {base : Heap} {k : Nat} {f : Addr} {fd : FuncData} {ps : List Str} (F : FnOk P w K mg base (CXE P w) k f fd ps (spW K wLaw)) : FnOk P w K mg base (CXE P w) k f fd ps (spLaw K) :=
  F.imp fun vs H Q E ⟨a, ns, e, hS, hl, hb, _, q⟩ => by
    subst e
    refine ⟨[.list (ns.map .int)], fun s => s = .dat (.bool true), fun _ => False, .cons (.lst hS (dvs_of_ints ns)) .nil, ⟨ns, rfl, hl, hb, rfl⟩, fun v s H' _ r hs => ?_, fun _ _ _ z => z.elim⟩
    subst hs
    cases dv_bl r
    exact q H'
section
variable {X : Cx} {pins : List (Addr × Obj)} {σ : L2.St} {H : Hp} {s : Shared} {h' : Heap}
theorem inv_turnedAll {t' : Nat} {ws : List Addr} (I : Inv X pins σ H s) (k : ∀ b o, b ∉ ws → s.heap.get? b = some o → h'.get? b = some o) (f : ∀ b ∈ ws, FpOk X pins H b) : Inv X pins σ H { s with heap := h', toks := t' } := by
  have nit : ∀ b u, H b = some u → b ∉ ws := fun b u e z => by rw [(f b z).1] at e; cases e
  refine I.step (g' := s.gens) (d' := s.drawn) (ch := ws) (fun b hb => ⟨(f b hb).2.2.2.1, (f b hb).2.1, (f b hb).2.2.2.2.1, (f b hb).2.2.2.2.2⟩) (fun b o _ _ hc e _ => k b o hc e) (fun b o _ _ hc e _ => ⟨o.slots, k b o hc e⟩) (fun _ _ _ _ n => n)
    (fun b o hc e => ⟨o, k b o hc e⟩) (fun _ _ e => e) (fun _ _ _ e => e) (fun b ps e => ⟨#[], by rw [e]; simp⟩) (fun m hm => ?_) (fun b u e => ?_) I.bare
  · obtain ⟨o, es, ep, ho, r⟩ := hm
    exact ⟨o, es, ep, k _ o (fun z => (f _ z).2.1 rfl) ho, r⟩
  · refine (I.hok b u e).stay (fun c v hc q => k c v ?_ q) (fun _ q => q) fun _ _ q => q
    rcases hc with z | z
    · rw [z]; exact nit b u e
    · exact nit c _ z
theorem inv_tup {T : Addr} {xs : List V} {its : List Value} (I : Inv X pins σ H s) (f : FpOk X pins H T) (h0 : X.s₀.heap.objs.size ≤ T) (hT : s.heap.IsTuple T its.toArray) (r : Vals xs its) (hz : xs.length ≤ sizeLine) : Inv X pins σ (upd H T (.tup xs)) s := by
  obtain ⟨f0, f1, f2, f3, f4, f5⟩ := f
  have neH : ∀ b o, H b = some o → b ≠ T := fun b o e z => by rw [z, f0] at e; cases e
  refine ⟨I.ok, I.os, I.bare, ⟨I.base.keep, I.base.slot, fun b o e n hb => ?_, I.base.there, fun b xs e => ?_, fun b o u e => ?_, fun b ps e => ?_⟩, I.loc, I.cell, ?_, fun y c e => ?_, fun p hp => ?_, fun b o e => ?_, I.len⟩
  · rw [upd_ne (Nat.ne_of_lt (Nat.lt_of_lt_of_le (Heap.lt_size e) h0))]
    exact I.base.free b o e n hb
  · have q := I.base.tups b xs e
    rw [upd_ne (neH b _ q)]; exact q
  · have q := I.base.frzs b o u e
    rw [upd_ne (neH b _ q)]; exact q
  · obtain ⟨m, q⟩ := I.base.tbls b ps e
    exact ⟨m, by rw [upd_ne (neH b _ q)]; exact q⟩
  · rw [upd_ne (Ne.symm f1)]; exact I.free
  · rw [upd_ne (f4 y c e)]; exact I.freeC y c e
  · obtain ⟨e, n, r⟩ := I.pin p hp
    exact ⟨e, by rw [upd_ne (f5 p hp)]; exact n, r⟩
  · by_cases hb : b = T
    · subst hb
      rw [upd_same] at e; cases e
      exact ⟨hz, its, r, hT⟩
    · rw [upd_ne hb] at e
      exact (I.hok b o e).stay (fun c v _ q => q) (fun c q => by rw [upd_ne (neH c _ q)]; exact q) fun c xs q => by rw [upd_ne (neH c _ q)]; exact q
end
noncomputable def Itz (K : PySem.W.Frag) (a b : Addr) : It :=
  ⟨fun i H => ∃ xs ys, SqL K H a xs ∧ SqL K H b ys ∧ i < xs.length ∧ i < ys.length,
   fun i H x H' => ∃ T u v, x = .ref T ∧ H T = none ∧ H' = upd H T (.tup [u, v]) ∧ (∀ xs, SqL K H a xs → xs[i]? = some u) ∧ ∀ ys, SqL K H b ys → ys[i]? = some v,
   fun i H => ∃ xs ys, SqL K H a xs ∧ SqL K H b ys ∧ (xs.length ≤ i ∨ ys.length ≤ i)⟩
theorem turn_zip {P : Program} {w : World} {K : PySem.W.Frag} {elts : List Expr} {k : Nat} {pos : Pos} {z TI TO i1 i2 l1 l2 : Addr} (D : ZipApart z TI TO i1 i2 l1 l2) :
    Turn P w K (.Tuple elts k pos) (Itz K l1 l2) [z, TI, TO, i1, i2] z (fun i h => IsZip h z TI TO .none ∧ IsPair h TI (.ref i1) (.ref i2) ∧ (∃ a b, IsPair h TO a b) ∧ h.IsListIter i1 l1 i ∧ h.IsListIter i2 l2 i) where
  mem := by simp
  obj := fun i h st b hb => by
    obtain ⟨hz, hTI, ⟨x, y, hTO⟩, ⟨o1, e1, _, d1⟩, ⟨o2, e2, _, d2⟩⟩ := st
    simp only [List.mem_cons, List.not_mem_nil, or_false] at hb
    rcases hb with rfl | rfl | rfl | rfl | rfl
    · exact ⟨_, hz, fun v q => by cases q⟩
    · exact ⟨_, hTI, fun v q => by cases q⟩
    · exact ⟨_, hTO, fun v q => by cases q⟩
    · exact ⟨o1, e1, fun v q => by rw [d1] at q; cases q⟩
    · exact ⟨o2, e2, fun v q => by rw [d2] at q; cases q⟩
  keep := fun i h h' st kp => by
    obtain ⟨hz, hTI, ⟨x, y, hTO⟩, h1, h2⟩ := st
    exact ⟨kp z (by simp) _ hz, kp TI (by simp) _ hTI, ⟨x, y, kp TO (by simp) _ hTO⟩, h1.at fun o e => kp i1 (by simp) o e, h2.at fun o e => kp i2 (by simp) o e⟩
  item := by
    intro X hP hw hK hc i pins s σ H E I hf st hg
    subst hP hw hK
    obtain ⟨xs, ys, q1, q2, g1, g2⟩ := hg
    obtain ⟨its1, rv1, p1, z1⟩ := I.list q1
    obtain ⟨its2, rv2, p2, z2⟩ := I.list q2
    obtain ⟨hz, hTI, ⟨x0, y0, hTO⟩, h1, h2⟩ := st
    have W := WalksT.zip2 (prog := X.prog) (w := X.w) (A := X.A) (I.ok.hd hc) z TI TO i1 i2 l1 l2 D its1.toArray its2.toArray
    have L1 := rv1.length
    have L2 := rv2.length
    refine W.item i s _ _ (by simp only [List.size_toArray]; omega) ⟨hz, hTI, ⟨_, _, hTO⟩, h1, h2, p1.isList, p2.isList⟩ fun T vals h' tk hv hsz hT hmid kk => ?_
    obtain ⟨x, y, hx, hy, rfl⟩ := hv
    refine ⟨_, rfl, W.go elts k pos i T { s with heap := h', toks := tk } _ _ hmid fun h3 hst kk3 => ?_⟩
    obtain ⟨u, e1⟩ : ∃ u, xs[i]? = some u := ⟨xs[i], List.getElem?_eq_getElem g1⟩
    obtain ⟨v, e2⟩ : ∃ v, ys[i]? = some v := ⟨ys[i], List.getElem?_eq_getElem g2⟩
    obtain ⟨x', e3, r1⟩ := rv1.get e1
    obtain ⟨y', e4, r2⟩ := rv2.get e2
    have ex : x' = x := by
      have : its1[i]? = some x := by simpa using hx
      rw [e3] at this; exact Option.some.inj this
    have ey : y' = y := by
      have : its2[i]? = some y := by simpa using hy
      rw [e4] at this; exact Option.some.inj this
    subst ex; subst ey
    have fw : ∀ b ∈ [z, TO, i1, i2], FpOk X pins H b := fun b hb => hf b (by
      simp only [List.mem_cons, List.not_mem_nil, or_false] at hb ⊢
      rcases hb with rfl | rfl | rfl | rfl <;> simp)
    have I1 : Inv X pins σ H { s with heap := h', toks := tk } := inv_turnedAll I kk fw
    have I2 : Inv X pins σ H { s with heap := h3, toks := tk } := inv_turnedAll (s := { s with heap := h', toks := tk }) I1 kk3 fw
    have nT := W.apart i T h' hmid
    have hT3 : h3.IsTuple T #[x', y'] := by
      obtain ⟨o, ho, r⟩ := hT
      exact ⟨o, kk3 T o nT ho, r⟩
    have fT : FpOk X pins H T := I.fpOk hsz (I.hok.fresh hsz)
    have I3 := inv_tup (xs := [u, v]) (its := [x', y']) I2 fT (Nat.le_trans I.sz hsz) hT3 (.cons r1 (.cons r2 .nil)) (Nat.le_of_lt (small1000 (by show 2 ≤ 1000; decide)))
    refine ⟨.ref T, upd H T (.tup [u, v]), I3, rfl, ⟨T, u, v, rfl, fT.1, rfl, fun xs' h => by rw [I.list_inj h q1]; exact e1, fun ys' h => by rw [I.list_inj h q2]; exact e2⟩, ⟨hst.1, hst.2.1, hst.2.2.1, hst.2.2.2.1, hst.2.2.2.2.1⟩, fun b hb => ?_⟩
    rw [upd_ne]
    · exact (hf b hb).1
    · intro e
      subst e
      have : ∃ o, s.heap.get? b = some o := by
        simp only [List.mem_cons, List.not_mem_nil, or_false] at hb
        rcases hb with rfl | rfl | rfl | rfl | rfl
        · exact ⟨_, hz⟩
        · exact ⟨_, hTI⟩
        · exact ⟨_, hTO⟩
        · obtain ⟨o, e, _⟩ := h1; exact ⟨o, e⟩
        · obtain ⟨o, e, _⟩ := h2; exact ⟨o, e⟩
      obtain ⟨o, e⟩ := this
      exact absurd (Heap.lt_size e) (Nat.not_lt.mpr hsz)
  done := by
    intro X hP hw hK hc i pins s σ H E I hf st hg
    subst hP hw hK
    obtain ⟨xs, ys, q1, q2, g⟩ := hg
    obtain ⟨its1, rv1, p1, z1⟩ := I.list q1
    obtain ⟨its2, rv2, p2, z2⟩ := I.list q2
    obtain ⟨hz, hTI, ⟨x0, y0, hTO⟩, h1, h2⟩ := st
    have L1 := rv1.length
    have L2 := rv2.length
    refine wpAny_pyNext_zip_end (I.ok.hd hc) D hz hTI hTO h1 h2 p1.isList p2.isList ?_ fun h' hk => ⟨rfl, ?_⟩
    · rcases g with g | g
      · exact .inl (by simp; omega)
      · exact .inr (by simp; omega)
    · exact inv_turnedAll (t' := s.toks) (ws := [z, TO, i1, i2]) I (fun b o hb e => hk b o (fun x => hb (by simp [x])) (fun x => hb (by simp [x])) (fun x => hb (by simp [x])) (fun x => hb (by simp [x])) e) fun b hb => hf b (by
        simp only [List.mem_cons, List.not_mem_nil, or_false] at hb ⊢
        rcases hb with rfl | rfl | rfl | rfl <;> simp)
  self := fun _ _ _ _ _ st h => wpAny_pyIter_zip st.1 h
theorem boot_zip : bootBuiltins "zip" = some (.type "zip") := by decide +kernel
theorem boot_enumerate : bootBuiltins "enumerate" = some (.type "enumerate") := by decide +kernel
section
variable {X : Cx} {K : PySem.W.Frag}
noncomputable def iZip (K : PySem.W.Frag) (t : TA) : TI := fun σ H R => t σ H fun vs H1 => ∃ a b, vs = [.ref a, .ref b] ∧ (∃ xs, SqL K H1 a xs) ∧ (∃ ys, SqL K H1 b ys) ∧ R (Itz K a b) H1
theorem pi_zip {elts : List Expr} {k : Nat} {tpos : Pos} {a b : Expr} {ta : TA} {p pos : Pos} (hK : X.K = K) (hg : Gl X "zip") (hm : X.mg "zip" = none) (ha : PA X [a, b] ta) (hs : starEach [a, b] X.env = [(false, eval a X.env), (false, eval b X.env)] := by rfl) (hs2 : starEach [b] X.env = [(false, eval b X.env)] := by rfl) :
    PI X (.Tuple elts k tpos) (.Call (.Name "zip" p) [a, b] [] pos) (iZip K ta) := by
  subst hK
  intro pins s σ H R I h
  refine Call_ (ld_blt I hg hm boot_zip (PyProof.Rows.callWith_type1 (thn (ha pos pins s σ H _ I h) fun us s1 ⟨vs, H1, I1, r1, q1⟩ => ?_) (by rw [hs, hs2]) (by rw [hs2]; rfl)))
  obtain ⟨a', b', e, ⟨xs, g1⟩, ⟨ys, g2⟩, q⟩ := q1
  subst e
  obtain ⟨u, v, rfl, ru, rv⟩ := vals2 r1
  cases ru; cases rv
  obtain ⟨its1, rv1, p1, z1⟩ := I1.list g1
  obtain ⟨its2, rv2, p2, z2⟩ := I1.list g2
  have a1 : a' < s1.heap.objs.size := by obtain ⟨_, e, _⟩ := p1.isList; exact Heap.lt_size e
  have a2 : b' < s1.heap.objs.size := by obtain ⟨_, e, _⟩ := p2.isList; exact Heap.lt_size e
  refine call_zip_2 p1.isList p2.isList fun h' hz hTI hTO hi1 hi2 _ hk => wpAny_pyIter_zip hz ?_
  refine ⟨s1.heap.objs.size + 4, [s1.heap.objs.size + 4, s1.heap.objs.size + 2, s1.heap.objs.size + 3, s1.heap.objs.size, s1.heap.objs.size + 1], _, _, H1, rfl, I1.kept (t' := s1.toks) hk, turn_zip (zipApart_new a1 a2), ⟨hz, hTI, ⟨_, _, hTO⟩, hi1, hi2⟩, fun b hb => ?_, q⟩
  have hb2 : s1.heap.objs.size ≤ b := by
    simp only [List.mem_cons, List.not_mem_nil, or_false] at hb
    rcases hb with rfl | rfl | rfl | rfl | rfl <;> omega
  exact I1.fpOk hb2 (I1.hok.fresh hb2)
end
noncomputable def Ite (K : PySem.W.Frag) (a : Addr) : It :=
  ⟨fun i H => ∃ xs, SqL K H a xs ∧ i < xs.length,
   fun i H x H' => ∃ T u, x = .ref T ∧ H T = none ∧ H' = upd H T (.tup [.int (i : Int), u]) ∧ ∀ xs, SqL K H a xs → xs[i]? = some u,
   fun i H => ∃ xs, SqL K H a xs ∧ xs.length ≤ i⟩
theorem turn_enum {P : Program} {w : World} {K : PySem.W.Frag} {elts : List Expr} {k : Nat} {pos : Pos} {e it l : Addr} (hei : e ≠ it) (hle : l ≠ e) (hli : l ≠ it) :
    Turn P w K (.Tuple elts k pos) (Ite K l) [e, it] e (fun i h => (∃ old, IsEnum h e it i old) ∧ h.IsListIter it l i) where
  mem := by simp
  obj := fun i h st b hb => by
    obtain ⟨⟨old, he⟩, ⟨o1, e1, _, d1⟩⟩ := st
    simp only [List.mem_cons, List.not_mem_nil, or_false] at hb
    rcases hb with rfl | rfl
    · exact ⟨_, he, fun v q => by cases q⟩
    · exact ⟨o1, e1, fun v q => by rw [d1] at q; cases q⟩
  keep := fun i h h' st kp => by
    obtain ⟨⟨old, he⟩, h1⟩ := st
    exact ⟨⟨old, kp e (by simp) _ he⟩, h1.at fun o x => kp it (by simp) o x⟩
  item := by
    intro X hP hw hK hc i pins s σ H E I hf st hg
    subst hP hw hK
    obtain ⟨xs, q1, g1⟩ := hg
    obtain ⟨its1, rv1, p1, z1⟩ := I.list q1
    obtain ⟨⟨old, he⟩, h1⟩ := st
    have W := WalksT.enumerate (prog := X.prog) (w := X.w) (A := X.A) (I.ok.hd hc) e it l hei hle hli its1.toArray
    have L1 := rv1.length
    refine W.item i s _ _ (by simp only [List.size_toArray]; omega) ⟨⟨old, he⟩, h1, p1.isList⟩ fun T vals h' tk hv hsz hT hmid kk => ?_
    obtain ⟨t, x, hx, rfl⟩ := hv
    refine ⟨_, rfl, W.go elts k pos i T { s with heap := h', toks := tk } _ _ hmid fun h3 hst kk3 => ?_⟩
    obtain ⟨u, e1⟩ : ∃ u, xs[i]? = some u := ⟨xs[i], List.getElem?_eq_getElem g1⟩
    obtain ⟨x', e3, r1⟩ := rv1.get e1
    have ex : x' = x := by
      have : its1[i]? = some x := by simpa using hx
      rw [e3] at this; exact Option.some.inj this
    subst ex
    have I1 : Inv X pins σ H { s with heap := h', toks := tk } := inv_turnedAll I kk hf
    have I2 : Inv X pins σ H { s with heap := h3, toks := tk } := inv_turnedAll (s := { s with heap := h', toks := tk }) I1 kk3 hf
    have nT := W.apart i T h' hmid
    have hT3 : h3.IsTuple T #[.int i t, x'] := by
      obtain ⟨o, ho, r⟩ := hT
      exact ⟨o, kk3 T o nT ho, r⟩
    have fT : FpOk X pins H T := I.fpOk hsz (I.hok.fresh hsz)
    have I3 := inv_tup (xs := [.int (i : Int), u]) (its := [.int i t, x']) I2 fT (Nat.le_trans I.sz hsz) hT3 (.cons ⟨t, rfl⟩ (.cons r1 .nil)) (Nat.le_of_lt (small1000 (by show 2 ≤ 1000; decide)))
    refine ⟨.ref T, upd H T (.tup [.int (i : Int), u]), I3, rfl, ⟨T, u, rfl, fT.1, rfl, fun xs' h => by rw [I.list_inj h q1]; exact e1⟩, ⟨hst.1, hst.2.1⟩, fun b hb => ?_⟩
    rw [upd_ne]
    · exact (hf b hb).1
    · intro e'
      subst e'
      have : ∃ o, s.heap.get? b = some o := by
        simp only [List.mem_cons, List.not_mem_nil, or_false] at hb
        rcases hb with rfl | rfl
        · exact ⟨_, he⟩
        · obtain ⟨o, e, _⟩ := h1; exact ⟨o, e⟩
      obtain ⟨o, e⟩ := this
      exact absurd (Heap.lt_size e) (Nat.not_lt.mpr hsz)
  done := by
    intro X hP hw hK hc i pins s σ H E I hf st hg
    subst hP hw hK
    obtain ⟨xs, q1, g⟩ := hg
    obtain ⟨its1, rv1, p1, z1⟩ := I.list q1
    obtain ⟨⟨old, he⟩, h1⟩ := st
    have L1 := rv1.length
    exact wpAny_pyNext_enum_end (I.ok.hd hc) he h1 p1.isList (by simp; omega) fun h' hx => ⟨rfl, inv_turnedAll (t' := s.toks) (ws := [e, it]) I (fun b o hb y => hx b o (fun e' => hb (by simp [e'])) y) hf⟩
  self := fun _ _ _ _ _ st h => by
    obtain ⟨⟨old, he⟩, _⟩ := st
    exact wpAny_pyIter_enum he h
section
variable {X : Cx} {K : PySem.W.Frag}
noncomputable def iEnum (K : PySem.W.Frag) (t : TA) : TI := fun σ H R => t σ H fun vs H1 => ∃ a, vs = [.ref a] ∧ (∃ xs, SqL K H1 a xs) ∧ R (Ite K a) H1
theorem pi_enumerate {elts : List Expr} {k : Nat} {tpos : Pos} {a : Expr} {ta : TA} {p pos : Pos} (hK : X.K = K) (hg : Gl X "enumerate") (hm : X.mg "enumerate" = none) (ha : PA X [a] ta) (hs : starEach [a] X.env = [(false, eval a X.env)] := by rfl) :
    PI X (.Tuple elts k tpos) (.Call (.Name "enumerate" p) [a] [] pos) (iEnum K ta) := by
  subst hK
  intro pins s σ H R I h
  refine Call_ (ld_blt I hg hm boot_enumerate (PyProof.Rows.callWith_type1 (thn (ha pos pins s σ H _ I h) fun us s1 ⟨vs, H1, I1, r1, q1⟩ => ?_) (by rw [hs]; rfl) (by rfl)))
  obtain ⟨a', e, ⟨xs, g1⟩, q⟩ := q1
  subst e
  obtain ⟨u, rfl, ru⟩ := vals1 r1
  cases ru
  obtain ⟨its1, rv1, p1, z1⟩ := I1.list g1
  have a1 : a' < s1.heap.objs.size := by obtain ⟨_, e, _⟩ := p1.isList; exact Heap.lt_size e
  refine call_enumerate_list p1.isList fun h' hz hi1 _ hk => wpAny_pyIter_enum hz ?_
  refine ⟨s1.heap.objs.size + 1, [s1.heap.objs.size + 1, s1.heap.objs.size], _, _, H1, rfl, I1.kept (t' := s1.toks) hk, turn_enum (e := s1.heap.objs.size + 1) (it := s1.heap.objs.size) (l := a') (Nat.succ_ne_self _) (Nat.ne_of_lt (Nat.lt_succ_of_lt a1)) (Nat.ne_of_lt a1), ⟨⟨_, hz⟩, hi1⟩, fun b hb => ?_, q⟩
  have hb2 : s1.heap.objs.size ≤ b := by
    simp only [List.mem_cons, List.not_mem_nil, or_false] at hb
    rcases hb with rfl | rfl <;> omega
  exact I1.fpOk hb2 (I1.hok.fresh hb2)
end
section
variable {K : PySem.W.Frag} {H₀ : Hp} {E : XK} {te ta tb : TE} {da db de : DE} {dl dk : DL} {t : TA}
noncomputable def pairD : List PyData → List PyData → List PyData
  | x :: xs, y :: ys => .tuple [x, y] :: pairD xs ys
  | _, _ => []
theorem pairD_len : ∀ xs ys : List PyData, (pairD xs ys).length = min xs.length ys.length
  | [], _ => by simp [pairD]
  | _ :: _, [] => by simp [pairD]
  | x :: xs, y :: ys => by simp [pairD, pairD_len xs ys]
theorem pairD_at : ∀ {xs ys : List PyData} {i : Nat} {d : PyData}, (pairD xs ys)[i]? = some d → ∃ x y, xs[i]? = some x ∧ ys[i]? = some y ∧ d = .tuple [x, y]
  | [], _, _, _, h => by simp [pairD] at h
  | _ :: _, [], _, _, h => by simp [pairD] at h
  | x :: xs, y :: ys, 0, d, h => ⟨x, y, rfl, rfl, by simpa [pairD] using h.symm⟩
  | x :: xs, y :: ys, i + 1, d, h => by
    obtain ⟨u, v, h1, h2, h3⟩ := pairD_at (xs := xs) (ys := ys) (i := i) (d := d) (by simpa [pairD] using h)
    exact ⟨u, v, by simpa using h1, by simpa using h2, h3⟩
noncomputable def dZip (dl dk : DL) (ex : DX) (δ : DEn) (Q : List PyData → Prop) : Prop := dl ex δ fun xs => dk ex δ fun ys => Q (pairD xs ys)
theorem itz_ok {a b : Addr} {vs ws : List V} {xs ys : List PyData} {G H : Hp} (s : Sub G H) (h1 : SqL K H a vs) (h2 : SqL K H b ws) (d1 : DVs K G vs xs) (d2 : DVs K G ws ys) (i : Nat) :
    (∀ d, (pairD xs ys)[i]? = some d → (Itz K a b).go i H ∧ ∀ x H2, (Itz K a b).yld i H x H2 → ∃ G2, Ext G H G2 H2 ∧ DV K G2 x d) ∧ ((pairD xs ys).length ≤ i → (Itz K a b).stop i H) := by
  refine ⟨fun d hi => ?_, fun hi => ⟨vs, ws, h1, h2, ?_⟩⟩
  · obtain ⟨x, y, e1, e2, rfl⟩ := pairD_at hi
    obtain ⟨u, f1, f2⟩ := d1.at e1
    obtain ⟨v, g1, g2⟩ := d2.at e2
    refine ⟨⟨vs, ws, h1, h2, (List.getElem?_eq_some_iff.mp f1).1, (List.getElem?_eq_some_iff.mp g1).1⟩, fun z H2 ⟨T, u', v', e3, hT, e4, k1, k2⟩ => ?_⟩
    subst e3 e4
    have q1 := k1 vs h1
    have q2 := k2 ws h2
    rw [f1] at q1; rw [g1] at q2
    cases q1; cases q2
    have e := ext_new (xs := [u, v]) s hT
    exact ⟨_, e, .tup (SqT.of upd_same) (.cons (dv_same e.g f2) (.cons (dv_same e.g g2) .nil))⟩
  · rw [pairD_len] at hi
    have := d1.len
    have := d2.len
    omega
theorem is_zip (h1 : EvD K H₀ E ta da) (h2 : EvD K H₀ E tb db) : IvS K H₀ E (iZip K (tCons ta (tCons tb tNil))) (dZip (dAsL da) (dAsL db)) := fun ex δ σ G H Qd R hx S q k =>
  h1 ex δ σ G H _ _ hx S q fun v d G1 H1 e1 hd q1 => by
    cases d with
    | list xs =>
      refine h2 ex δ σ G1 H1 _ _ hx (S.ext e1) q1 fun v2 d2 G2 H2 e2 hd2 q2 => ?_
      cases d2 with
      | list ys =>
        obtain ⟨a, vs, rfl, a1, a2⟩ := dv_list hd
        obtain ⟨b, ws, rfl, b1, b2⟩ := dv_list hd2
        refine ⟨a, b, rfl, ⟨vs, e2.h.seq (e1.s.same.seq a1)⟩, ⟨ws, e2.s.same.seq b1⟩, k _ _ G2 H2 (e1.trans e2) (fun G' H' s1 s2 i => ?_) q2⟩
        exact itz_ok s2 (s2.same.seq (s1.seq (e2.g.seq a1))) (s2.same.seq (s1.seq b1)) (dvs_same s1 (dvs_same e2.g a2)) (dvs_same s1 b2) i
      | _ => exact q2.elim
    | _ => exact q1.elim
theorem ie_zip (h1 : LvD K H₀ E ta dl) (h2 : LvD K H₀ E tb dk) : IvE K H₀ E (iZip K (tCons ta (tCons tb tNil))) (dZip dl dk) := fun ex δ σ G H Qd R hx S q k =>
  h1 ex δ σ G H _ _ hx S q fun a vs xs G1 H1 e1 a1 a2 q1 => h2 ex δ σ G1 H1 _ _ hx (S.ext e1) q1 fun b ws ys G2 H2 e2 b1 b2 q2 =>
    ⟨a, b, rfl, ⟨vs, e2.h.seq a1⟩, ⟨ws, b1⟩, k _ _ G2 H2 (e1.trans e2) (fun G' H' e i => itz_ok e.s (e.h.seq (e2.h.seq a1)) (e.h.seq b1) (dvs_same e.g (dvs_same e2.g a2)) (dvs_same e.g b2) i) q2⟩
noncomputable def enumD : Nat → List PyData → List PyData
  | _, [] => []
  | k, x :: xs => .tuple [.int (k : Int), x] :: enumD (k + 1) xs
theorem enumD_len : ∀ (k : Nat) (xs : List PyData), (enumD k xs).length = xs.length
  | _, [] => rfl
  | k, x :: xs => by simp [enumD, enumD_len (k + 1) xs]
theorem enumD_at : ∀ {k : Nat} {xs : List PyData} {i : Nat} {d : PyData}, (enumD k xs)[i]? = some d → ∃ x, xs[i]? = some x ∧ d = .tuple [.int ((k + i : Nat) : Int), x]
  | _, [], _, _, h => by simp [enumD] at h
  | k, x :: xs, 0, d, h => ⟨x, rfl, by simpa [enumD] using h.symm⟩
  | k, x :: xs, i + 1, d, h => by
    obtain ⟨u, h1, h2⟩ := enumD_at (k := k + 1) (xs := xs) (i := i) (d := d) (by simpa [enumD] using h)
    refine ⟨u, by simpa using h1, ?_⟩
    rw [h2]
    have e : k + 1 + i = k + (i + 1) := by omega
    rw [e]
noncomputable def dEnum (dl : DL) (ex : DX) (δ : DEn) (Q : List PyData → Prop) : Prop := dl ex δ fun xs => Q (enumD 0 xs)
theorem ite_ok {a : Addr} {vs : List V} {xs : List PyData} {G H : Hp} (s : Sub G H) (h1 : SqL K H a vs) (d1 : DVs K G vs xs) (i : Nat) :
    (∀ d, (enumD 0 xs)[i]? = some d → (Ite K a).go i H ∧ ∀ x H2, (Ite K a).yld i H x H2 → ∃ G2, Ext G H G2 H2 ∧ DV K G2 x d) ∧ ((enumD 0 xs).length ≤ i → (Ite K a).stop i H) := by
  refine ⟨fun d hi => ?_, fun hi => ⟨vs, h1, ?_⟩⟩
  · obtain ⟨x, e1, rfl⟩ := enumD_at hi
    obtain ⟨u, f1, f2⟩ := d1.at e1
    refine ⟨⟨vs, h1, (List.getElem?_eq_some_iff.mp f1).1⟩, fun z H2 ⟨T, u', e3, hT, e4, k1⟩ => ?_⟩
    subst e3 e4
    have q1 := k1 vs h1
    rw [f1] at q1
    cases q1
    have e := ext_new (xs := [.int (i : Int), u]) s hT
    rw [Nat.zero_add]
    exact ⟨_, e, .tup (SqT.of upd_same) (.cons (.int _) (.cons (dv_same e.g f2) .nil))⟩
  · rw [enumD_len] at hi
    rw [d1.len]; exact hi
theorem is_enum (h1 : EvD K H₀ E ta da) : IvS K H₀ E (iEnum K (tCons ta tNil)) (dEnum (dAsL da)) := fun ex δ σ G H Qd R hx S q k =>
  h1 ex δ σ G H _ _ hx S q fun v d G1 H1 e1 hd q1 => by
    cases d with
    | list xs =>
      obtain ⟨a, vs, rfl, a1, a2⟩ := dv_list hd
      exact ⟨a, rfl, ⟨vs, e1.s.same.seq a1⟩, k _ _ G1 H1 e1 (fun G' H' s1 s2 i => ite_ok s2 (s2.same.seq (s1.seq a1)) (dvs_same s1 a2) i) q1⟩
    | _ => exact q1.elim
end
section
variable {prog : Program} {w : World} {A : Around} {E : Value → Shared → Prop} {s : Shared}
end
section
variable {prog : Program} {w : World} {A : Around} {s : Shared} {R : Result → Shared → Prop}
variable {I : Addr} {fp wr : List Addr} {G : Array GenState → Array GenState → Prop} {n : Nat} {P : Nat → Value → Prop} {St : Nat → Shared → Prop}
end
section
variable {prog : Program} {w : World} {A : Around} {E : Value → Shared → Prop} {s : Shared}
end
section
variable {X : Cx} {pins : List (Addr × Obj)} {σ : L2.St} {H : Hp} {s : Shared}
theorem inv_new {T : Addr} {o : HO} (I : Inv X pins σ H s) (f : FpOk X pins H T) (h0 : X.s₀.heap.objs.size ≤ T) (new : ObjOk X.prog X.w (upd H T o) s.heap T o) : Inv X pins σ (upd H T o) s := by
  obtain ⟨f0, f1, f2, f3, f4, f5⟩ := f
  have neH : ∀ b u, H b = some u → b ≠ T := fun b u e z => by rw [z, f0] at e; cases e
  refine ⟨I.ok, I.os, I.bare, ⟨I.base.keep, I.base.slot, fun b u e n hb => ?_, I.base.there, fun b xs e => ?_, fun b u v e => ?_, fun b ps e => ?_⟩, I.loc, I.cell, ?_, fun y c e => ?_, fun p hp => ?_, fun b u e => ?_, I.len⟩
  · rw [upd_ne (Nat.ne_of_lt (Nat.lt_of_lt_of_le (Heap.lt_size e) h0))]
    exact I.base.free b u e n hb
  · have q := I.base.tups b xs e
    rw [upd_ne (neH b _ q)]; exact q
  · have q := I.base.frzs b u v e
    rw [upd_ne (neH b _ q)]; exact q
  · obtain ⟨m, q⟩ := I.base.tbls b ps e
    exact ⟨m, by rw [upd_ne (neH b _ q)]; exact q⟩
  · rw [upd_ne (Ne.symm f1)]; exact I.free
  · rw [upd_ne (f4 y c e)]; exact I.freeC y c e
  · obtain ⟨e, n, r⟩ := I.pin p hp
    exact ⟨e, by rw [upd_ne (f5 p hp)]; exact n, r⟩
  · by_cases hb : b = T
    · subst hb
      rw [upd_same] at e; cases e
      exact new
    · rw [upd_ne hb] at e
      exact (I.hok b u e).stay (fun c v _ q => q) (fun c q => by rw [upd_ne (neH c _ q)]; exact q) fun c xs q => by rw [upd_ne (neH c _ q)]; exact q
end
section
variable {X : Cx} {K : PySem.W.Frag}
end
section
variable {K : PySem.W.Frag} {H₀ : Hp} {E : XK} {te : TE} {dl : DL}
end
end Dl
namespace Dl
open PySem PySem.Spec PyProof.Rows L2 Lx PySem.W
section
variable {prog : Program} {w : World} {A : Around} {E : Value → Shared → Prop} {s : Shared}
end
section
variable {X : Cx} {K : PySem.W.Frag}
end
section
variable {K : PySem.W.Frag} {H₀ : Hp} {E : XK} {te ta : TE} {de da : DE} {dl : DL}
noncomputable abbrev pr (q : Int × Int) : PyData := .tuple [.int q.1, .int q.2]
end
section
variable {X : Cx}
noncomputable def rInsert : V → List V → Hp → VK → Prop := fun x vs H Q => ∃ l xs i y, x = .ref l ∧ vs = [.int i, y] ∧ H l = some (.lst xs) ∧ 0 ≤ i ∧ i ≤ (xs.length : Int) ∧ xs.length < sizeLine ∧ Q .non (upd H l (.lst (xs.take i.toNat ++ y :: xs.drop i.toNat)))
theorem mt_insert : MtM X "list.insert" rInsert := by
  intro pins s σ H x vs v us Q I rx rv h
  obtain ⟨l, xs, i, y, rfl, rfl, hH, h0, h1, hz, q⟩ := h
  cases rx
  obtain ⟨u, w', rfl, ⟨t, rfl⟩, ru⟩ := vals2 rv
  obtain ⟨z, its, n, r, hl, e⟩ := I.lstM hH
  have hlen := r.length
  have hn := line63
  refine call_meets F.slot_list_insert ⟨_, e, rfl⟩ F.entry_list_insert (F.args_list_insert_3 _ _ _) (PySem.AutoListH.list_insert_list_int_val_1 l its.toArray n i t w' (by simp [Builtin.List.listFitsIndex]; omega) (by rw [List.size_toArray]; omega)) ⟨e, ?_⟩
  refine ⟨.non, _, I.lset (its' := its.take i.toNat ++ w' :: its.drop i.toNat) hH e ?_ ((r.take _).append (.cons ru (r.drop _))) ?_, rfl, q⟩
  · have e1 : ¬ i < 0 := by omega
    have e2 : min i.toNat its.length = i.toNat := by omega
    simp only [e1, if_false, List.size_toArray, e2]
    apply Array.ext'
    simp [List.take_of_length_le]
  · rw [List.length_append, List.length_cons, List.length_take, List.length_drop]
    omega
end
section
variable {K : PySem.W.Frag} {H₀ : Hp} {E : XK} {te ta : TE} {de da : DE} {dl : DL}
noncomputable def dIns (i : Nat) (da de : DE) (e : DEnds) (δ : DEn) : Prop := match slot δ i with
  | some (.own ds) => da e.ex δ fun x => (match x with
    | .int k => de e.ex δ fun d => 0 ≤ k ∧ k ≤ (ds.length : Int) ∧ ds.length < 1000 ∧ e.nx (put (some (.own (ds.take k.toNat ++ d :: ds.drop k.toNat))) i δ)
    | _ => False)
  | _ => False
theorem sv_ins (i : Nat) (ha : BvD K H₀ E ta da) (h : EvD K H₀ E te de) : SvD K H₀ E (tDrop (tBM K "list" rInsert (tVar i) (tCons ta (tCons te tNil)))) (dIns i da de) := fun δ σ G H e D hx S q L => by
  unfold dIns at q
  split at q
  · rename_i ds hs
    obtain ⟨a, vs, h1, h2, h3, h4⟩ := S.ownAt hs
    refine ⟨_, h1, .inl ⟨rfl, _, SqL.of h3⟩, ha e.ex δ σ G H _ _ hx S q fun v d G' H' x hd qd => ?_⟩
    cases d with
    | int k =>
      cases dv_int hd
      refine h e.ex δ σ G' H' _ _ hx (S.ext x) qd fun v2 d2 G2 H2 x2 hd2 q2 => ?_
      obtain ⟨q0, q1, q3, q4⟩ := q2
      have x3 := x.trans x2
      have S' := S.ext x3
      have hl := h4.len
      exact ⟨a, vs, k, v2, rfl, rfl, x3.h _ _ h3, q0, by rw [hl]; exact q1, small1000 (by rw [hl]; omega), L.nx _ _ G2 _ x3.g (S'.updO hs h1 (((dvs_same x3.g h4).take _).append (.cons hd2 ((dvs_same x3.g h4).drop _)))) q4⟩
    | _ => exact qd.elim
  · exact q.elim
end
section
variable {X : Cx} {K : PySem.W.Frag}
end
section
variable {K : PySem.W.Frag} {H₀ : Hp} {E : XK} {ta tb : TE} {db : DE} {dl : DL}
noncomputable def dRep (dl : DL) (db : DE) (ex : DX) (δ : DEn) (Q : List PyData → Prop) : Prop := dl ex δ fun xs => db ex δ fun y => match y with
  | .int k => (-(2 ^ 63) ≤ k ∧ k < 2 ^ 63) ∧ xs.length * k.toNat ≤ 1000 ∧ Q (List.replicate k.toNat xs).flatten
  | _ => False
theorem dvs_rep {G : Hp} {vs : List V} {ds : List PyData} (h : DVs K G vs ds) : ∀ n : Nat, DVs K G (List.replicate n vs).flatten (List.replicate n ds).flatten
  | 0 => .nil
  | n + 1 => by
    rw [List.replicate_succ, List.replicate_succ, List.flatten_cons, List.flatten_cons]
    exact h.append (dvs_rep h n)
theorem ov_rep (h1 : MvD K H₀ E ta dl) (h2 : BvD K H₀ E tb db) : OvD K H₀ E (tOp rRep ta tb) (dRep dl db) := fun ex δ σ G H Qd Q hx S q k =>
  h1 ex δ σ G H _ _ hx S q fun a vs ds G1 H1 e1 l1 d1 q1 => h2 ex δ σ G1 H1 _ _ hx (S.ext e1) q1 fun y dy G2 H2 e2 hy q2 => by
    cases dy with
    | int j =>
      cases dv_int hy
      obtain ⟨⟨b1, b2⟩, q2, q3⟩ := q2
      refine ⟨a, j, vs, rfl, rfl, e2.h _ _ l1, b1, b2, Nat.le_of_lt (small1000 (by rw [d1.len]; exact q2)), fun p hp => ?_⟩
      obtain ⟨e3, g3⟩ := ext_newL (xs := (List.replicate j.toNat vs).flatten) e2.s hp
      have e0 := e1.trans e2
      exact k p _ _ _ _ (e0.trans e3) (e0.h.free hp) g3 upd_same (dvs_rep (dvs_same e2.g d1) _) q3
    | _ => exact q2.elim
end
theorem ktup {K : PySem.W.Frag} {a : Addr} {od : Option Addr} {n : Nat} {sl : Array (Option Value)} {its : Array Value} {xs : List V} {ds : List PyData} (h : K.lookup a = some ⟨.type "tuple", od, .seq its n, sl⟩) (hz : its.size ≤ sizeLine) (r : Vals xs its.toList) (d : ∀ H, DVs K H xs ds) (H : Hp) : DV K H (.ref a) (.tuple ds) :=
  .tup (.inr ⟨_, its, n, h, rfl, rfl, hz, r⟩) (d H)
noncomputable def eStr : Enc { x : Str // PyData.strOk x = true } := ⟨fun x => .str x.1, 0, by decide, fun x => x.2, fun _ => by simp [PyData.depth], fun x y => by simp [PyData.eqv, Subtype.ext_iff]⟩
noncomputable def rInT (K : PySem.W.Frag) (neg : Bool) : R2 := fun x y H Q => ∃ (α : Type) (e : Enc α) (a : α) (bs : List α), DV K H x (e.d a) ∧ DV K H y (.tuple (bs.map e.d)) ∧ ∀ k : Bool, (k = true ↔ a ∈ bs) → Q (.bl (if neg then !k else k)) H
section
variable {X : Cx} {K : PySem.W.Frag}
theorem notInTK (hK : X.K = K) (hu : X.A.units + 64 < cLine) : OpR X (compareOp .NotIn) (rInT K true) := by
  subst hK
  intro pins s σ H x y v u Q I rx ry h
  obtain ⟨α, e, a, bs, da, db, q⟩ := h
  obtain ⟨as, r1⟩ := dv_reads I da rx
  obtain ⟨cs, r2⟩ := dv_reads I db ry
  have h1 := e.depth a
  have h2 := e.small
  exact PySem.SeqAt.notIn_tuple_reads r2 r1 (enc_all e bs).1 (e.lay a) (by omega) ⟨.bl _, H, I, rfl, q _ (any_enc e a bs)⟩
end
noncomputable def oNInT (x y : PyData) (Q : PyData → Prop) : Prop := ∃ (α : Type) (e : Enc α) (a : α) (bs : List α), x = e.d a ∧ y = .tuple (bs.map e.d) ∧ ∀ k : Bool, (k = true ↔ a ∈ bs) → Q (.bool !k)
section
variable {K : PySem.W.Frag}
theorem ro_notInT : ROp K (rInT K true) oNInT := by
  rintro G H x y dx dy Qd Q hx hy ⟨α, e, a, bs, rfl, rfl, q⟩ k
  exact ⟨α, e, a, bs, hx, hy, fun c hc => k _ _ (.bl _) (q c hc)⟩
end
section
variable {X : Cx} {K : PySem.W.Frag}
end
section
variable {K : PySem.W.Frag}
end
section
variable {prog : Program} {w : World} {A : Around} {E : Value → Shared → Prop}
end
section
variable {X : Cx} {K : PySem.W.Frag}
end
section
variable {K : PySem.W.Frag} {H₀ : Hp}
end
local macro_rules | `(tactic| walk_at "o") => `(tactic| first | omega | (refine (fun (h : @Eq Nat _ _) => ?_); omega))
section
variable {prog : Program} {w : World} {A : Around} {E : Value → Shared → Prop} {s : Shared}
end
section
variable {prog : Program} {w : World} {A : Around} {E : Value → Shared → Prop} {s : Shared}
end
section
variable {X : Cx} {K : PySem.W.Frag}
end
section
variable {K : PySem.W.Frag} {H₀ : Hp} {E : XK} {ta tb tc : TE} {da db dc : DE} {dl dk dm : DL}
end
section
variable {K : PySem.W.Frag} {H₀ : Hp} {E : XK} {te ta tb : TE} {da db de : DE} {ts : TS} {ds : DS}
end
section
variable {K : PySem.W.Frag} {H₀ : Hp} {E : XK} {dl : DL} {tt : TT} {dt : DT} {ts : TS} {ds : DS} {g : TG} {dg : DG} {ns : List Nat}
end
noncomputable def d2 (dl dk : DL) (ex : DX) (δ : DEn) (Q : List PyData → List PyData → Prop) : Prop := dl ex δ fun xs => dk ex δ fun ys => Q xs ys
section
variable {K : PySem.W.Frag} {H₀ : Hp} {E : XK} {ta tb : TE} {dl dk : DL} {t : TA}
end
section
variable {K : PySem.W.Frag} {H₀ : Hp} {E : XK}
end
section
variable {K : PySem.W.Frag} {H₀ : Hp} {E : XK} {tb : TE} {db : DE} {dl : DL} {t : TA} {g : TG} {dg : DG} {ns : List Nat}
end
end Dl
namespace Lx
open PySem PySem.Spec PyProof.Rows L2
theorem env_cell1 {M : Model} {A : Around} {E : Value → Shared → Prop} {s : Shared} {scope : Scope} {globals : Addr} {cl : List (Str × Addr)} {qual : Str} {env : Env} {x : Str} {Q : Env → Shared → Prop}
    (hc : ∀ n, cellsFrom n scope.names cl = (x, n) :: cl) (hp : ∀ h, pushCells h scope.names = h.push { cls := .type "cell", data := .cell none })
    (hQ : Q (newEnv scope s.heap.objs.size globals ((x, s.heap.objs.size + 1) :: cl) qual none .none (some env) builtinsNs) { s with heap := (s.heap.push { cls := .type "dict", data := .dict #[] }).push { cls := .type "cell", data := .cell none } }) :
    wpAny M A (newFunctionEnv scope globals cl [] qual none .none (some env)) Q E s := by
  simp only [newFunctionEnv, Option.isSome_some, if_true]
  refine wpAny_bind (wpAny_alloc ?_)
  refine wpAny_bind (wpAny_layCells _ (fun name kind cells => by cases hkc : kind == NameKind.cell <;> simp [hkc]) _ _ _ _ ?_)
  rw [hc, hp, show ({ s with heap := s.heap.push { cls := .type "dict", data := .dict #[] } } : Shared).heap.objs.size = s.heap.objs.size + 1 from Heap.size_push ..]
  refine wpAny_bind ?_
  rw [List.forIn_nil]
  exact wpAny_pure (wpAny_pure hQ)
noncomputable def lcCx1 (X : Cx) (scope : Scope) (x : Str) (c : Addr) (cl : List (Str × Addr)) (NC : List Str) (C : Addr) (s₀ : Shared) (H₀ : Hp) (fp : List Addr) : Cx where
  prog := X.prog
  w := X.w
  K := X.K
  mg := X.mg
  base := X.base
  A := X.A
  N := NC
  s₀ := s₀
  H₀ := H₀
  env := compEnvC scope ((x, c) :: cl) C X.env
  outer := X.stack
  stack := X.stack
  ex := fp
  fn := fun y => decide (y = x)
  calm := X.calm
  pn := []
  xe := fun _ _ => False
structure LcOk1 (X : Cx) (scope : Scope) (x : Str) (cl : List (Str × Addr)) (cap : List (Option Nat)) (NC : List Str) : Prop where
  clos : closureFor scope X.env = pure cl
  kind : scope.kind = .function
  one : ∀ n, cellsFrom n scope.names cl = (x, n) :: cl
  push : ∀ h, pushCells h scope.names = h.push { cls := .type "cell", data := .cell none }
  fresh : cl.lookup x = none
  names : ∀ x ∈ scope.names, x.2 = .local → scope.names.lookup x.1 = some .local
  caps : CapsOk X scope cl cap NC
  cells : ∀ p ∈ cl, X.env.cells.lookup p.1 = some p.2
  has : ∀ c : Addr, ((relabel scope X.env).names.all fun p => (p.2 != .cell && p.2 != .free) || (((x, c) :: cl).lookup p.1).isSome) = true
section
variable {X : Cx} {elt target iter : Expr} {ifs : List Expr} {scope : Scope} {pos : Pos} {wi : TI} {cap : List (Option Nat)} {NC : List Str} {cl : List (Str × Addr)} {g : TG} {tt : TT} {te : TE} {x0 : Str}
theorem lc_block1 {pins : List (Addr × Obj)} {σ : L2.St} {s₂ : Shared} {H2 : Hp} {it : Addr} {fp : List Addr} {tn : Nat → Heap → Prop} {J : It} {Z : Value → Addr → Result → Shared → Prop} {G : V → Hp → Prop}
    (hc : X.calm = true) (L : LcOk1 X scope x0 cl cap NC) (hg : ∀ C c s₀ H₀ fp, PG (lcCx1 X scope x0 c cl NC C s₀ H₀ fp) target g) (ht : ∀ C c s₀ H₀ fp, PTs (lcCx1 X scope x0 c cl NC C s₀ H₀ fp) ifs tt) (he : ∀ C c s₀ H₀ fp, PE (lcCx1 X scope x0 c cl NC C s₀ H₀ fp) elt te)
    (I2 : Inv X pins σ H2 s₂) (T : Turn X.prog X.w X.K target J fp it tn) (st2 : tn 0 s₂.heap) (f2 : ∀ b ∈ fp, FpOk X pins H2 b)
    (hW : ∀ D, H2 D = none → ∃ W : Nat → Nat → L2.St → Hp → Prop, (∃ m, W 0 m (capσ cap σ) (upd H2 D (.lst []))) ∧ ∀ i m σc Hc, W i m σc Hc →
      (J.stop i Hc ∧ G (.ref D) Hc) ∨ (J.go i Hc ∧ ∃ N : L2.St → Hp → Prop, (∀ σ' H', N σ' H' → ∃ m', m' < m ∧ W (i + 1) m' σ' H') ∧ ∀ x H', J.yld i Hc x H' → g x σc H' fun σ2 H2 => tt σ2 H2 fun b H3 =>
        if b = true then te σ2 H3 fun y H4 => ∃ ys, H4 D = some (.lst ys) ∧ ys.length < sizeLine ∧ N σ2 (upd H4 D (.lst (ys ++ [y]))) else N σ2 H3))
    (hZ : ∀ (D C : Addr) (Hc : Hp) (s' : Shared) (m : Str → Option Value), s'.heap.Ns C m → (∀ h', Heap.SameBut C s'.heap h' → ∀ t', Inv X pins σ Hc { s' with heap := h', toks := t' }) → FpOk X pins Hc C → G (.ref D) Hc → Z (.ref D) C (.ok .next) s') {E : Value → Shared → Prop} :
    wpAny (model X.prog X.w) X.A (newList []) (fun acc s₃ => wpAny (model X.prog X.w) X.A (newFunctionEnv scope X.env.globals cl [] X.env.qual none .none (some X.env)) (fun cenv s₄ =>
      codeAny (model X.prog X.w) X.A (.compStart (.ListComp elt [⟨target, iter, ifs, 0⟩] scope pos) 0 (.ref it) acc { cenv with scope := relabel scope X.env }) (Z acc cenv.locals) s₄) E s₃) E s₂ := by
  refine wpAny_newObj_type (env_cell1 L.one L.push ?_)
  dsimp only
  have nD : H2 s₂.heap.objs.size = none := I2.hok.fresh (Nat.le_refl _)
  have I3 : Inv X pins σ (upd H2 s₂.heap.objs.size (.lst [])) { s₂ with heap := s₂.heap.push { cls := .type "list", dict := none, data := .seq ([] : List Value).toArray } } := by
    refine I2.laid (t' := s₂.toks) (fun b u e => Heap.get?_push_of_some _ e) (Nat.le_refl _) ?_
    exact ⟨Nat.zero_le _, [], 0, .nil, Heap.get?_push_size _ rfl⟩
  obtain ⟨W, ⟨m0, w0⟩, turn⟩ := hW s₂.heap.objs.size nD
  generalize hD : s₂.heap.objs.size = D at nD I3 turn w0 ⊢
  generalize hH : s₂.heap.push { cls := .type "list", dict := none, data := .seq ([] : List Value).toArray } = h₀ at I3 ⊢
  have hpush : ∀ b o, s₂.heap.get? b = some o → h₀.get? b = some o := fun b o e => by rw [← hH]; exact Heap.get?_push_of_some _ e
  obtain ⟨h₁, hh⟩ : ∃ h₁ : Heap, (h₀.push { cls := .type "dict", data := .dict #[] }).push { cls := .type "cell", data := .cell none } = h₁ := ⟨_, rfl⟩
  have hns₁ : h₁.Ns h₀.objs.size (fun _ => none) := by
    rw [← hh]
    exact (Heap.Ns.new h₀ (.type "dict")).keeps fun b o e => Heap.get?_push_of_some _ e
  have hcell : h₁.IsCell (h₀.objs.size + 1) none := by
    rw [← hh]
    exact ⟨_, by
      have := Heap.get?_push_size (h₀.push { cls := .type "dict", data := .dict #[] }) (o := { cls := .type "cell", data := .cell none }) rfl
      rw [Heap.size_push] at this
      exact this, rfl⟩
  have old : ∀ b o, h₀.get? b = some o → h₁.get? b = some o := fun b o e => by rw [← hh]; exact Heap.get?_push_of_some _ (Heap.get?_push_of_some _ e)
  rw [hh]
  obtain ⟨c0, hc0⟩ : ∃ c0 : Addr, h₀.objs.size + 1 = c0 := ⟨_, rfl⟩
  have below0 : ∀ b o, h₀.get? b = some o → b ≠ c0 := fun b o e z => by
    have := Heap.lt_size e
    rw [z, ← hc0] at this
    exact absurd this (Nat.not_lt.mpr (Nat.le_succ _))
  rw [hc0] at hcell ⊢
  have c0C : c0 ≠ h₀.objs.size := by rw [← hc0]; exact Nat.succ_ne_self _
  have c0s : h₀.objs.size ≤ c0 := by rw [← hc0]; exact Nat.le_succ _
  have free0 : (upd H2 D (.lst [])) c0 = none := I3.hok.fresh c0s
  clear hh hc0
  generalize hC : h₀.objs.size = C at hns₁ c0C c0s ⊢
  have belowC : ∀ b o, h₀.get? b = some o → b ≠ C := fun b o e z => by
    have := Heap.lt_size e
    rw [hC, ← z] at this
    exact Nat.lt_irrefl _ this
  have f3 : ∀ b ∈ fp, FpOk X pins (upd H2 D (.lst [])) b := fun b hb => by
    obtain ⟨x1, x2⟩ := f2 b hb
    obtain ⟨o, e, _⟩ := T.obj 0 _ st2 b hb
    refine ⟨?_, x2⟩
    rw [upd_ne (fun z => by have := Heap.lt_size e; rw [z, ← hD] at this; exact Nat.lt_irrefl _ this)]
    exact x1
  have fpC : ∀ b ∈ fp, b ≠ C := fun b hb => by
    obtain ⟨o, e, _⟩ := T.obj 0 _ st2 b hb
    exact belowC b o (hpush b o e)
  have ccs : ∀ {y : Str} {c : Addr}, ((x0, c0) :: cl).lookup y = some c → (y = x0 ∧ c = c0) ∨ (y ≠ x0 ∧ cl.lookup y = some c) := fun {y c} e => by
    rw [List.lookup_cons] at e
    cases q : y == x0 with
    | true =>
      rw [q] at e
      cases e
      exact .inl ⟨by simpa using q, rfl⟩
    | false =>
      rw [q] at e
      exact .inr ⟨by simpa using q, e⟩
  have old0 : ∀ {y : Str} {c : Addr}, cl.lookup y = some c → c ≠ c0 := fun {y c} e => by
    obtain ⟨v, o, ho, _⟩ := I3.cell y c (L.cells (y, c) (PySem.mem_of_lookup e))
    exact below0 c o ho
  let Y : Cx := lcCx1 X scope x0 c0 cl NC C { s₂ with heap := h₀ } (upd H2 D (.lst [])) fp
  have noC : (upd H2 D (.lst [])) C = none := I3.hok.fresh (by show h₀.objs.size ≤ C; rw [hC]; exact Nat.le_refl _)
  have okY : Y.Ok := by
    refine ⟨I3.ok.mod, by show (relabel scope X.env).kind = _; exact L.kind, I3.ok.glob, I3.ok.blt, by show h₀.objs.size ≤ C; rw [hC]; exact Nat.le_refl _, fun x y c e1 e2 => by
      rcases ccs e1 with ⟨a1, a2⟩ | ⟨a1, a2⟩ <;> rcases ccs e2 with ⟨b1, b2⟩ | ⟨b1, b2⟩
      · rw [a1, b1]
      · exact absurd a2 (old0 b2)
      · exact absurd b2 (old0 a2)
      · exact I3.ok.inj x y c (L.cells (x, c) (PySem.mem_of_lookup a2)) (L.cells (y, c) (PySem.mem_of_lookup b2)), fun x hx => ?_, fun x c z e => by
      rcases ccs e with ⟨a1, a2⟩ | ⟨a1, a2⟩
      · rw [a2]; show h₀.objs.size ≤ c0; rw [hC]; exact c0s
      · exact absurd (of_decide_eq_true z) a1, I3.ok.hd, I3.ok.frames, .inl rfl, fun b hb => ⟨fpC b hb, fun x c e => by
      rcases ccs e with ⟨a1, a2⟩ | ⟨a1, a2⟩
      · rw [a2]; intro z
        obtain ⟨o, eo, _⟩ := T.obj 0 _ st2 b hb
        exact below0 b o (hpush b o eo) z.symm
      · exact (f3 b hb).2.2.2.2.1 x c (L.cells (x, c) (PySem.mem_of_lookup a2))⟩, I3.bs, Nat.le_trans I3.ok.bsz I3.sz, fun b o e hb => ?_, fun b hb hm => ?_, I3.stack, I3.stkFree⟩
    · have mem : ∃ k, (x, k) ∈ (relabel scope X.env).names ∧ (k = .cell ∨ k = .free) := by
        rcases hx with z | z
        · exact ⟨_, PySem.mem_of_lookup z, .inl rfl⟩
        · exact ⟨_, PySem.mem_of_lookup z, .inr rfl⟩
      obtain ⟨k, hk, hk2⟩ := mem
      have q := List.all_eq_true.mp (L.has c0) (x, k) hk
      have q2 : (((x0, c0) :: cl).lookup x).isSome = true := by
        rcases hk2 with z | z
        · subst z; simpa using q
        · subst z; simpa using q
      exact Option.isSome_iff_exists.mp q2
    · rcases (f3 b hb).2.2.2.1 with z | z
      · exact I3.ok.noex b o e z
      · exact absurd (Nat.lt_of_lt_of_le (Heap.lt_size e) (Nat.le_trans I3.ok.bsz z)) (Nat.lt_irrefl _)
    · rcases List.mem_cons.mp (I3.stkSub b hm) with z | z
      · exact (f3 b hb).2.1 z
      · exact (f3 b hb).2.2.1 z
  have stat : ∀ {Hc : Hp}, (∀ b ∈ fp, Hc b = none) → ∀ b ∈ fp, FpOk Y [] Hc b := fun hn b hb =>
    ⟨hn b hb, fpC b hb, okY.exfs b hb, .inl hb, fun x c e => (okY.exf b hb).2 x c e, fun p hp => absurd (show p ∈ ([] ++ [] : List (Addr × Obj)) from hp) (by simp)⟩
  have back : ∀ {σc : L2.St} {Hc : Hp} {s' : Shared} {pn : List (Addr × Obj)}, Inv Y pn σc Hc s' → ∀ h', Heap.SameBut C s'.heap h' → ∀ t', Inv X pins σ Hc { s' with heap := h', toks := t' } := fun {σc Hc s' pn} I' h' sb t' => by
    have u := I'.base
    have nC : Hc C = none := I'.free
    refine I3.call' (s' := { s' with heap := h', toks := t' }) (ch := fp) I'.os ⟨fun b o e n hb hx => ?_, fun b o e n hb hx => ?_, u.free, fun b o e hx => ?_, u.tups, u.frzs, u.tbls⟩ (fun b o e => ?_) I'.bare (fun b hb => ⟨(f3 b hb).2.2.2.1, (f3 b hb).2.1, (f3 b hb).2.2.2.2.1, (f3 b hb).2.2.2.2.2⟩)
    · exact (sb.2 b (belowC b o e)).trans (u.keep b o e n hb hx)
    · obtain ⟨sl, q⟩ := u.slot b o e n hb hx
      exact ⟨sl, (sb.2 b (belowC b o e)).trans q⟩
    · obtain ⟨o', q⟩ := u.there b o e hx
      exact ⟨o', (sb.2 b (belowC b o e)).trans q⟩
    · refine (I'.hok b o e).stay (fun c v hcb q => (sb.2 c ?_).trans q) (fun _ q => q) fun _ _ q => q
      rintro rfl
      rcases hcb with z | z
      · subst z
        rw [nC] at e; cases e
      · rw [nC] at z; cases z
  have Ist : ∀ t', Inv Y [] (capσ cap σ) (upd H2 D (.lst [])) { s₂ with heap := h₁, toks := t' } := fun t' => by
    refine ⟨okY, rfl, I3.bare, ⟨fun b o e _ _ _ => old b o e, fun b o e _ _ _ => ⟨o.slots, old b o e⟩, fun _ _ _ n _ => n, fun b o e _ => ⟨o, old b o e⟩, fun _ _ e => e, fun _ _ _ e => e, fun b ps e => ⟨#[], by rw [show (upd H2 D (.lst [])) b = _ from e]; simp⟩⟩, ⟨_, hns₁, fun j y v e1 e2 e3 => ?_⟩, fun y c e => ?_, noC, fun y c e => by
      rcases ccs e with ⟨a1, a2⟩ | ⟨a1, a2⟩
      · rw [a2]; exact free0
      · exact I3.freeC y c (L.cells (y, c) (PySem.mem_of_lookup a2)), fun p hp => absurd (show p ∈ ([] ++ [] : List (Addr × Obj)) from hp) (by simp), I3.hok.kept old, by
      show (cap.map _).length = NC.length
      rw [List.length_map]; exact L.caps.len⟩
    · have e2' : (cap.map fun o => o.bind fun i => (σ[i]?).bind id)[j]? = some (some v) := e2
      rw [List.getElem?_map] at e2'
      cases hq : cap[j]? with
      | none => rw [hq] at e2'; cases e2'
      | some o =>
        rw [hq] at e2'
        cases o with
        | none => cases e2'
        | some i =>
          have e4 : (σ[i]?).bind id = some v := by simpa using e2'
          have e5 : σ[i]? = some (some v) := by
            cases hs : σ[i]? with
            | none => rw [hs] at e4; cases e4
            | some z => rw [hs] at e4; simpa using e4
          obtain ⟨c, x1, x2, x3, x4, x5⟩ := L.caps.at hq e1
          obtain ⟨m, hn, hl⟩ := I3.loc
          obtain ⟨u, r, l⟩ := hl i y v x1 e5 (.inr (.inl x2))
          refine ⟨u, r, .inr ⟨.inl x5, c, by
            show ((x0, c0) :: cl).lookup y = some c
            rw [List.lookup_cons]
            have : (y == x0) = false := by
              rw [beq_eq_false_iff_ne]
              rintro rfl
              rw [L.fresh] at x3; cases x3
            rw [this]; exact x3, ?_⟩⟩
          rcases l with ⟨k, _⟩ | ⟨_, c', x6, z⟩
          · have k' : X.env.scope.names.lookup y = some .local := k
            rw [x2] at k'; cases k'
          · rw [x4] at x6; cases x6
            obtain ⟨o, ho, hd⟩ := z
            exact ⟨o, old _ _ ho, hd⟩
    · rcases ccs e with ⟨a1, a2⟩ | ⟨a1, a2⟩
      · rw [a2]; exact ⟨none, hcell⟩
      · obtain ⟨v, o, ho, hd⟩ := I3.cell y c (L.cells (y, c) (PySem.mem_of_lookup a2))
        exact ⟨v, o, old _ _ ho, hd⟩
  have loop : ∀ s₃ : Shared, s₃ = { s₂ with heap := h₁, toks := s₂.toks } →
      codeAny (model X.prog X.w) X.A (.compLoop (.ListComp elt [⟨target, iter, ifs, 0⟩] scope pos) 0 (.ref it) (.ref D) (compEnvC scope ((x0, c0) :: cl) C X.env)) (Z (.ref D) C) s₃ := by
    rintro s₃ rfl
    refine lc_loop (fun n s' => ∃ i σc Hc, Inv Y [] σc Hc s' ∧ tn i s'.heap ∧ (∀ b ∈ fp, Hc b = none) ∧ W i n σc Hc) ?_ m0 ⟨0, capσ cap σ, _, Ist _, T.keep _ _ _ st2 (fun b hb o e => old b o (hpush b o e)), fun b hb => (f3 b hb).1, w0⟩
    rintro n s5 ⟨i, σc, Hc, I5, st5, fr5, w5⟩ E'
    rcases turn i n σc Hc w5 with ⟨stop, qn⟩ | ⟨go, N, hN, step⟩
    · refine wpAny_mono (T.done Y rfl rfl rfl hc i [] s5 σc Hc E' I5 (stat fr5) st5 stop) (fun r s6 ⟨hr, I6⟩ => ?_) fun _ _ z => z
      subst hr
      obtain ⟨m, hn, _⟩ := id I6.loc
      exact hZ D C Hc s6 m hn (back I6) (I3.fpOk (by show h₀.objs.size ≤ C; rw [hC]; exact Nat.le_refl _) I6.free) qn
    · refine wpAny_mono (T.item Y rfl rfl rfl hc i [] s5 σc Hc E' I5 (stat fr5) st5 go) (fun r s6 ⟨u, hr, h6⟩ => ?_) fun _ _ z => z
      subst hr
      refine wpAny_mono h6 (fun _ s7 ⟨x, H7, I7, r7, y7, st7, fr7⟩ => ?_) fun _ _ z => z
      have I7' := I7.pinned (stat fr7) (T.obj _ _ st7)
      refine wpAny_mono (hg C c0 _ _ fp _ s7 σc H7 x u _ I7' r7 (step x H7 y7)) (fun _ s8 ⟨σ8, H8, I8, q8⟩ => ?_) fun _ _ z => False.elim z
      have again : ∀ {σ9 : L2.St} {H9 : Hp} {s9 : Shared}, Inv Y ([] ++ pinsAt fp s7.heap) σ9 H9 s9 → N σ9 H9 → ∃ m, m < n ∧ ∃ i σ' H', Inv Y [] σ' H' s9 ∧ tn i s9.heap ∧ (∀ b ∈ fp, H' b = none) ∧ W i m σ' H' := fun {σ9 H9 s9} I9 n9 => by
        obtain ⟨m', hm, w9⟩ := hN σ9 H9 n9
        refine ⟨m', hm, i + 1, σ9, H9, I9.unpinned, T.keep _ _ _ st7 fun b hb o e => (I9.pin (b, o) (List.mem_append_right _ (List.mem_append_right _ (mem_pinsAt hb e)))).1, fun b hb => ?_, w9⟩
        obtain ⟨o, e, d⟩ := T.obj _ _ st7 b hb
        exact (I9.pin (b, o) (List.mem_append_right _ (List.mem_append_right _ (mem_pinsAt hb e)))).2.1
      refine wpAny_mono (ht C c0 _ _ fp _ s8 σ8 H8 _ I8 q8) (fun ok s9 ⟨H9, I9, q9⟩ => ?_) fun _ _ z => False.elim z
      cases ok with
      | false =>
        rw [if_neg Bool.false_ne_true] at q9 ⊢
        exact again I9 q9
      | true =>
        rw [if_pos rfl] at q9 ⊢
        refine wpAny_mono (he C c0 _ _ fp _ s9 σ8 H9 _ I9 q9) (fun v sa ⟨y, Ha, Ia, ra, ys, hy, hl, na⟩ => ?_) fun _ _ z => False.elim z
        have app := mt_append (X := Y) _ sa σ8 Ha (.ref D) [y] (.ref D) [v] (fun _ Hb => N σ8 Hb) Ia rfl (.cons ra .nil) ⟨D, ys, y, rfl, rfl, hy, hl, na⟩
        exact wpAny_mono app (fun _ sb ⟨_, Hb, Ib, _, nb⟩ => again Ib nb) fun _ _ z => False.elim z
  exact codeAny_compStart_list (loop _ rfl) (T.self _ 0 _ _ _ (T.keep _ _ _ st2 fun b hb o e => old b o (hpush b o e)) (loop _ rfl))
theorem pe_lc1 (hc : X.calm = true) (L : LcOk1 X scope x0 cl cap NC) (hi : PI X target iter wi) (hg : ∀ C c s₀ H₀ fp, PG (lcCx1 X scope x0 c cl NC C s₀ H₀ fp) target g) (ht : ∀ C c s₀ H₀ fp, PTs (lcCx1 X scope x0 c cl NC C s₀ H₀ fp) ifs tt) (he : ∀ C c s₀ H₀ fp, PE (lcCx1 X scope x0 c cl NC C s₀ H₀ fp) elt te)
    (hs : ∀ x, foldedSetIterable iter X.env x = pure x := by intro _; rfl) : PE X (.ListComp elt [⟨target, iter, ifs, 0⟩] scope pos) (tLC wi cap g tt te) := by
  intro pins s σ H Q I h
  rw [eval_ListComp]
  refine wpAny_comprehension_free (use := none) rfl hs L.clos L.kind L.names (thn (hi pins s σ H _ I h) fun xv s₁ h₁ => thn h₁ fun itv s₂ h₂ => ?_)
  obtain ⟨it, fp, tn, J, H2, rfl, I2, T, st2, f2, hq⟩ := h₂
  refine lc_block1 (G := Q) hc L hg ht he I2 T st2 f2 hq fun D C Hc s' m hn back _ q => ?_
  exact ⟨m, hn, fun h' sb => ⟨.ref D, Hc, back h' sb _, rfl, q⟩⟩
end
end Lx
namespace Dl
open PySem PySem.Spec PyProof.Rows L2 Lx
section
variable {K : PySem.W.Frag} {H₀ : Hp} {E : XK} {te : TE} {de : DE} {dl : DL} {ta : TA}
end
section
variable {X : Cx}
end
section
variable {K : PySem.W.Frag} {H₀ : Hp} {E : XK} {te : TE} {de : DE} {dl : DL} {t : TA} {tt : TT} {dt : DT} {ts tz : TS} {ds dz : DS}
theorem Sees.unsetV {G H : Hp} {δ : DEn} {σ : L2.St} (S : Sees K H₀ G δ σ H) (i : Nat) (x : Option V) : Sees K H₀ G (put none i δ) (σ.set i x) H := by
  have look : ∀ j u, slot (put none i δ) j = some u → j ≠ i ∧ slot δ j = some u := fun j u hj => by
    rw [slot_put] at hj
    split at hj
    · cases hj
    · rename_i hc
      exact ⟨fun z => hc ⟨z, by rw [← z]; exact slot_lt hj⟩, hj⟩
  refine ⟨S.old, S.sub, by rw [put_len, List.length_set]; exact S.len, fun j u hj => ?_, fun j k xs ys a hj hk e1 e2 => ?_⟩
  · obtain ⟨n1, h1⟩ := look j u hj
    rw [List.getElem?_set_ne (Ne.symm n1)]
    exact S.has j u h1
  · obtain ⟨n1, h1⟩ := look j _ hj
    obtain ⟨n2, h2⟩ := look k _ hk
    rw [List.getElem?_set_ne (Ne.symm n1)] at e1
    rw [List.getElem?_set_ne (Ne.symm n2)] at e2
    exact S.sep j k xs ys a h1 h2 e1 e2
end
theorem zi_no_len : typeLookup (.type "zip") "__len__" = pure none := by rw [typeLookup_type, builtinLookup_eq_fast]; kernel_rfl
theorem zi_no_hint : typeLookup (.type "zip") "__length_hint__" = pure none := by rw [typeLookup_type, builtinLookup_eq_fast]; kernel_rfl
noncomputable abbrev IsZ (h : Heap) (z TI TO : Addr) (f0 f1 : Value) : Prop := h.get? z = some { cls := .type "zip", dict := none, data := .fields #[f0, f1, .bool false, .ref TI, .ref TO], slots := #[] }
section
variable {prog : Program} {w : World} {A : Around} {E : Value → Shared → Prop} {s : Shared}
theorem wpAny_alive {a : Addr} {o : Obj} {Q : Option Obj → Shared → Prop} (ho : s.heap.get? a = some o) (h : Q (some o) s) : wpAny (model prog w) A (loadIfAlive a) Q E s := fun Γ p _ => by
  rw [show loadIfAlive a = Sem.loadIfAlive a Sem.pure from rfl, Sem.wp_loadIfAlive, ho]
  exact h
theorem zip_held {z TI TO T : Addr} {b : Bool} {o : Obj} {Q : Bool → Shared → Prop} (hz : IsZ s.heap z TI TO (rawInt (T : Int)) (.bool b)) (hT : s.heap.get? T = some o)
    (hQ : ∀ h', IsZ h' z TI TO (rawInt (T : Int)) (.bool true) → Heap.SameBut z s.heap h' → Q false { s with heap := h' }) : wpAny (model prog w) A (Builtin.SmallTypes.ownedTupleIsFree (.ref z)) Q E s := by
  unfold Builtin.SmallTypes.ownedTupleIsFree
  refine wpAny_bind (wpAny_field hz rfl (x := rawInt (T : Int)) rfl ?_)
  show wpAny _ A (loadIfAlive (Int.toNat (T : Int)) >>= _) _ _ s
  rw [Int.toNat_natCast]
  refine wpAny_bind (wpAny_alive hT ?_)
  refine wpAny_ite_split (fun h => absurd h (by simp)) (fun _ => ?_)
  refine wpAny_bind (wpAny_field hz rfl (x := .bool b) rfl ?_)
  cases b with
  | false =>
    refine wpAny_ite_split (fun _ => ?_) (fun h => absurd (by decide) h)
    refine wpAny_bind (wpAny_setField_rec hz (by simp) fun h' hz' hs' => ?_)
    exact wpAny_pure (hQ h' hz' hs')
  | true =>
    refine wpAny_ite_split (fun h => absurd h (by decide)) (fun _ => ?_)
    exact wpAny_pure (hQ s.heap hz ⟨rfl, fun _ _ => rfl⟩)
theorem zip_next_held {z TI TO i1 i2 l1 l2 T : Addr} {oT : Obj} {bb : Bool} {k1 k2 : Nat} {xs ys : Array Value} {x y : Value} {Q : Value → Shared → Prop} (D : ZipApart z TI TO i1 i2 l1 l2)
    (hz : IsZ s.heap z TI TO (rawInt (T : Int)) (.bool bb)) (hT : s.heap.get? T = some oT) (hTI : IsPair s.heap TI (.ref i1) (.ref i2))
    (h1 : s.heap.IsListIter i1 l1 k1) (h2 : s.heap.IsListIter i2 l2 k2) (hl1 : s.heap.IsList l1 xs) (hl2 : s.heap.IsList l2 ys) (hx : xs[k1]? = some x) (hy : ys[k2]? = some y)
    (hQ : ∀ h', IsZ h' z TI TO (rawInt (T : Int)) (.bool true) → h'.IsListIter i1 l1 (k1 + 1) → h'.IsListIter i2 l2 (k2 + 1) → IsPair h' s.heap.objs.size x y → h'.objs.size = s.heap.objs.size + 1 →
      (∀ c o, c ∉ [z, i1, i2] → s.heap.get? c = some o → h'.get? c = some o) → Q (.ref s.heap.objs.size) { s with heap := h' }) :
    wpAny (model prog w) A (Builtin.«zip.__next__» ⟨[.ref z], []⟩) (fun fin s' => ∃ v, fin = .done (.ret v) ∧ Q v s') E s := by
  show wpAny _ A (field (.ref z) 2 >>= _) _ _ s
  refine wpAny_bind (wpAny_field hz rfl (x := .bool false) rfl ?_)
  show wpAny _ A (field (.ref z) 3 >>= _) _ _ s
  refine wpAny_bind (wpAny_field hz rfl (x := .ref TI) rfl (wpAny_bind (wpAny_seqItems hTI rfl ?_)))
  show wpAny _ A (Builtin.SmallTypes.ownedTupleIsFree (.ref z) >>= _) _ _ s
  refine wpAny_bind (zip_held hz hT fun h₁ hz₁ hs₁ => ?_)
  simp only [Bool.false_eq_true, if_false, List.forIn_toArray, List.forIn_cons, List.forIn_nil]
  refine wpAny_bind (wpAny_bind (wpAny_bind (wpAny_holding ?_)))
  show wpAny _ A (Builtin.SmallTypes.nextOf (.ref i1) >>= _) _ _ _
  refine wpAny_bind (wpAny_nextOf_list_item (h1.extBut hs₁.extBut D.i1z) (hl1.extBut hs₁.extBut D.l1z) hx fun h₂ h1₂ hs₂ => wpAny_pure ?_)
  refine wpAny_pure ?_
  refine wpAny_bind (wpAny_bind (wpAny_holding ?_))
  show wpAny _ A (Builtin.SmallTypes.nextOf (.ref i2) >>= _) _ _ _
  refine wpAny_bind (wpAny_nextOf_list_item ((h2.extBut hs₁.extBut D.i2z).extBut hs₂.extBut D.i12.symm) ((hl2.extBut hs₁.extBut D.l2z).extBut hs₂.extBut D.l2i1) hy fun h₃ h2₃ hs₃ => wpAny_pure ?_)
  refine wpAny_pure (wpAny_pure ?_)
  refine wpAny_bind (wpAny_newTuple (hsz := by show (2 : Nat) ≤ sizeLine; rw [sizeLine_eq]; omega) ?_)
  have hsz : h₃.objs.size = s.heap.objs.size := by rw [hs₃.1, hs₂.1, hs₁.1]
  have hz₃ : IsZ h₃ z TI TO (rawInt (T : Int)) (.bool true) := hs₃.extBut _ _ D.i2z.symm (hs₂.extBut _ _ D.i1z.symm hz₁)
  have up : ∀ c o, h₃.get? c = some o → (h₃.push { cls := .type "tuple", data := .seq #[x, y] }).get? c = some o := fun c o e => Heap.get?_push_of_some _ e
  refine wpAny_pure ⟨_, rfl, ?_⟩
  have q := hQ (h₃.push { cls := .type "tuple", data := .seq #[x, y] }) (up _ _ hz₃) ((h1₂.extBut hs₃.extBut D.i12).at fun o e => up _ o e) (h2₃.at fun o e => up _ o e) (by rw [← hsz]; exact Heap.get?_push_size _ rfl) (by rw [Heap.size_push, hsz]) fun c o hc e => ?_
  · rw [← hsz] at q; exact q
  · simp only [List.mem_cons, List.not_mem_nil, or_false, not_or] at hc
    exact up c o (hs₃.extBut _ _ hc.2.2 (hs₂.extBut _ _ hc.2.1 (hs₁.extBut _ _ hc.1 e)))
theorem zip_end_held {z TI TO i1 i2 l1 l2 T : Addr} {oT : Obj} {bb : Bool} {k1 k2 : Nat} {xs ys : Array Value} {Q : Fin → Shared → Prop} (hh : A.handled = none) (D : ZipApart z TI TO i1 i2 l1 l2)
    (hz : IsZ s.heap z TI TO (rawInt (T : Int)) (.bool bb)) (hT : s.heap.get? T = some oT) (hTI : IsPair s.heap TI (.ref i1) (.ref i2))
    (h1 : s.heap.IsListIter i1 l1 k1) (h2 : s.heap.IsListIter i2 l2 k2) (hl1 : s.heap.IsList l1 xs) (hl2 : s.heap.IsList l2 ys) (hend : xs[k1]? = none ∨ ys[k2]? = none)
    (hE : ∀ h' e, (∀ c o, c ∉ [z, i1, i2] → s.heap.get? c = some o → h'.get? c = some o) → (∃ o, h'.get? e = some o ∧ o.cls = .type "StopIteration") → E (.ref e) { s with heap := h' }) :
    wpAny (model prog w) A (Builtin.«zip.__next__» ⟨[.ref z], []⟩) Q E s := by
  show wpAny _ A (field (.ref z) 2 >>= _) _ _ s
  refine wpAny_bind (wpAny_field hz rfl (x := .bool false) rfl ?_)
  show wpAny _ A (field (.ref z) 3 >>= _) _ _ s
  refine wpAny_bind (wpAny_field hz rfl (x := .ref TI) rfl (wpAny_bind (wpAny_seqItems hTI rfl ?_)))
  show wpAny _ A (Builtin.SmallTypes.ownedTupleIsFree (.ref z) >>= _) _ _ s
  refine wpAny_bind (zip_held hz hT fun h₁ hz₁ hs₁ => ?_)
  simp only [Bool.false_eq_true, if_false, List.forIn_toArray, List.forIn_cons, List.forIn_nil]
  refine wpAny_bind (wpAny_bind (wpAny_bind (wpAny_holding ?_)))
  show wpAny _ A (Builtin.SmallTypes.nextOf (.ref i1) >>= _) _ _ _
  cases hx : xs[k1]? with
  | none =>
    refine wpAny_bind (wpAny_nextOf_list_end hh (h1.extBut hs₁.extBut D.i1z) (hl1.extBut hs₁.extBut D.l1z) hx fun h₂ e hs₂ he => hE h₂ e (fun c o hc q => ?_) he)
    simp only [List.mem_cons, List.not_mem_nil, or_false, not_or] at hc
    exact hs₂ _ _ hc.2.1 (hs₁.extBut _ _ hc.1 q)
  | some x =>
    have hy : ys[k2]? = none := by
      rcases hend with h | h
      · rw [hx] at h; cases h
      · exact h
    refine wpAny_bind (wpAny_nextOf_list_item (h1.extBut hs₁.extBut D.i1z) (hl1.extBut hs₁.extBut D.l1z) hx fun h₂ h1₂ hs₂ => wpAny_pure ?_)
    refine wpAny_pure ?_
    refine wpAny_bind (wpAny_bind (wpAny_holding ?_))
    show wpAny _ A (Builtin.SmallTypes.nextOf (.ref i2) >>= _) _ _ _
    refine wpAny_bind (wpAny_nextOf_list_end hh ((h2.extBut hs₁.extBut D.i2z).extBut hs₂.extBut D.i12.symm) ((hl2.extBut hs₁.extBut D.l2z).extBut hs₂.extBut D.l2i1) hy fun h₃ e hs₃ he => hE h₃ e (fun c o hc q => ?_) he)
    simp only [List.mem_cons, List.not_mem_nil, or_false, not_or] at hc
    exact hs₃ _ _ hc.2.2 (hs₂.extBut _ _ hc.2.1 (hs₁.extBut _ _ hc.1 q))
structure ZSt (h : Heap) (z TI TO i1 i2 l1 l2 base : Addr) (i : Nat) (xs ys : Array Value) : Prop where
  z : IsZ h z TI TO .none (.bool false) ∨ ∃ (T : Addr) (b : Bool) (o : Obj), IsZ h z TI TO (rawInt (T : Int)) (.bool b) ∧ base ≤ T ∧ h.get? T = some o
  ti : IsPair h TI (.ref i1) (.ref i2)
  to : ∃ a b, IsPair h TO a b
  i1 : h.IsListIter i1 l1 i
  i2 : h.IsListIter i2 l2 i
  l1 : h.IsList l1 xs
  l2 : h.IsList l2 ys
theorem zip_pyNext {z TI TO i1 i2 l1 l2 base : Addr} {i : Nat} {xs ys : Array Value} {x y : Value} {Q : Option Value → Shared → Prop} (D : ZipApart z TI TO i1 i2 l1 l2) (Z : ZSt s.heap z TI TO i1 i2 l1 l2 base i xs ys)
    (hb : base ≤ s.heap.objs.size) (bz : z < base) (b1 : i1 < base) (b2 : i2 < base) (hx : xs[i]? = some x) (hy : ys[i]? = some y)
    (hQ : ∀ h', ZSt h' z TI TO i1 i2 l1 l2 base (i + 1) xs ys → IsPair h' s.heap.objs.size x y → h'.objs.size = s.heap.objs.size + 1 → (∀ c o, c ∉ [z, TO, i1, i2] → s.heap.get? c = some o → h'.get? c = some o) → Q (some (.ref s.heap.objs.size)) { s with heap := h' }) :
    wpAny (model prog w) A (pyNext (.ref z)) Q E s := by
  obtain ⟨zz, hTI, ⟨a, b, hTO⟩, h1, h2, hl1, hl2⟩ := Z
  have keep : ∀ {h' : Heap}, (∀ c o, c ∉ [z, TO, i1, i2] → s.heap.get? c = some o → h'.get? c = some o) → IsPair h' TI (.ref i1) (.ref i2) ∧ h'.IsList l1 xs ∧ h'.IsList l2 ys := fun {h'} k =>
    ⟨k _ _ (by simp [D.TIz, D.TITO, D.TIi1, D.TIi2]) hTI, hl1.at fun o e => k _ o (by simp [D.l1z, D.l1TO, D.l1i1, D.l1i2]) e, hl2.at fun o e => k _ o (by simp [D.l2z, D.l2TO, D.l2i1, D.l2i2]) e⟩
  rcases zz with hz | ⟨T, bb, oT, hz, hTb, hT⟩
  · refine wpAny_pyNext_zip_item D hz hTI hTO h1 h2 hl1 hl2 hx hy fun h' a1 a2 a3 a4 a5 a6 a7 => ?_
    have k : ∀ c o, c ∉ [z, TO, i1, i2] → s.heap.get? c = some o → h'.get? c = some o := fun c o hc e => by
      simp only [List.mem_cons, List.not_mem_nil, or_false, not_or] at hc
      exact a7 c o hc.1 hc.2.1 hc.2.2.1 hc.2.2.2 e
    obtain ⟨k1, k2, k3⟩ := keep k
    exact hQ h' ⟨.inr ⟨_, false, _, a1, hb, a5⟩, k1, ⟨_, _, a2⟩, a3, a4, k2, k3⟩ a5 a6 k
  · have hTy : s.TypeIs (.ref z) "zip" := ⟨_, hz, rfl⟩
    unfold pyNext
    refine wpAny_bind (wpAny_attempt (wpAny_callSpecial?_slot (name := Str.ofString "__next__") hTy F.slot_zip_next (wpAny_call_entry F.slot_zip_next hTy F.entry_zip_next
      (zip_next_held D hz hT hTI h1 h2 hl1 hl2 hx hy fun h' a1 a3 a4 a5 a6 a7 => wpAny_pure ?_) (F.args_zip_next_1 _))))
    have k : ∀ c o, c ∉ [z, TO, i1, i2] → s.heap.get? c = some o → h'.get? c = some o := fun c o hc e => by
      simp only [List.mem_cons, List.not_mem_nil, or_false, not_or] at hc
      exact a7 c o (by simp [hc.1, hc.2.2.1, hc.2.2.2]) e
    obtain ⟨k1, k2, k3⟩ := keep k
    have kT : h'.get? T = some oT := a7 T oT (by simp; exact ⟨Nat.ne_of_gt (Nat.lt_of_lt_of_le bz hTb), Nat.ne_of_gt (Nat.lt_of_lt_of_le b1 hTb), Nat.ne_of_gt (Nat.lt_of_lt_of_le b2 hTb)⟩) hT
    have kTO : IsPair h' TO a b := a7 TO _ (by simp [D.TOz, D.TOi1, D.TOi2]) hTO
    exact hQ h' ⟨.inr ⟨T, true, oT, a1, hTb, kT⟩, k1, ⟨_, _, kTO⟩, a3, a4, k2, k3⟩ a5 a6 k
theorem zip_pyEnd {z TI TO i1 i2 l1 l2 base : Addr} {i : Nat} {xs ys : Array Value} {Q : Option Value → Shared → Prop} (hh : A.handled = none) (D : ZipApart z TI TO i1 i2 l1 l2) (Z : ZSt s.heap z TI TO i1 i2 l1 l2 base i xs ys) (hend : xs[i]? = none ∨ ys[i]? = none)
    (hQ : ∀ h', (∀ c o, c ∉ [z, TO, i1, i2] → s.heap.get? c = some o → h'.get? c = some o) → Q none { s with heap := h' }) : wpAny (model prog w) A (pyNext (.ref z)) Q E s := by
  obtain ⟨zz, hTI, ⟨a, b, hTO⟩, h1, h2, hl1, hl2⟩ := Z
  rcases zz with hz | ⟨T, bb, oT, hz, hTb, hT⟩
  · refine wpAny_pyNext_zip_end hh D hz hTI hTO h1 h2 hl1 hl2 hend fun h' a7 => hQ h' fun c o hc e => ?_
    simp only [List.mem_cons, List.not_mem_nil, or_false, not_or] at hc
    exact a7 c o hc.1 hc.2.1 hc.2.2.1 hc.2.2.2 e
  · have hTy : s.TypeIs (.ref z) "zip" := ⟨_, hz, rfl⟩
    unfold pyNext
    refine wpAny_bind (wpAny_attempt (wpAny_callSpecial?_slot (name := Str.ofString "__next__") hTy F.slot_zip_next (wpAny_call_entry F.slot_zip_next hTy F.entry_zip_next
      (zip_end_held hh D hz hT hTI h1 h2 hl1 hl2 hend fun h' e a7 he => ?_) (F.args_zip_next_1 _))))
    obtain ⟨o, ho, hc⟩ := he
    refine wpAny_bind (wpAny_isInstance (T := "StopIteration") (b := true) ⟨o, ho, hc⟩ isSubtype_stop (wpAny_pure (hQ h' fun c o hc e => ?_)))
    simp only [List.mem_cons, List.not_mem_nil, or_false, not_or] at hc
    exact a7 c o (by simp [hc.1, hc.2.2.1, hc.2.2.2]) e
end
noncomputable def refsAt (base n : Nat) : List Value := (List.range n).map fun j => Value.ref (base + j)
theorem refsAt_succ (base n : Nat) : (refsAt base n).toArray.push (.ref (base + n)) = (refsAt base (n + 1)).toArray := by
  unfold refsAt
  rw [List.range_succ, List.map_append]
  simp
section
variable {prog : Program} {w : World} {A : Around} {R : Result → Shared → Prop}
theorem zip_loop {z TI TO i1 i2 l1 l2 S base n : Nat} {xs ys : Array Value} (hh : A.in1.handled = none) (D : ZipApart z TI TO i1 i2 l1 l2) (hS : S ∉ [z, TI, TO, i1, i2, l1, l2]) (bS : S < base) (bz : z < base) (bo : TO < base) (b1 : i1 < base) (b2 : i2 < base)
    (hn1 : n ≤ xs.size) (hn2 : n ≤ ys.size) (hn3 : n = xs.size ∨ n = ys.size) (hn : n ≤ sizeLine) (res : Value) :
    ∀ (k i : Nat) (s : Shared) (c : Nat), n - i = k → i ≤ n → s.heap.objs.size = base + i → ZSt s.heap z TI TO i1 i2 l1 l2 base i xs ys → s.heap.get? S = some { cls := .type "list", dict := none, data := .seq (refsAt base i).toArray c, slots := #[] } →
      (∀ j x y, j < i → xs[j]? = some x → ys[j]? = some y → IsPair s.heap (base + j) x y) →
      (∀ h' c', (∀ b o, b ∉ [S, z, TO, i1, i2] → s.heap.get? b = some o → h'.get? b = some o) → h'.get? S = some { cls := .type "list", dict := none, data := .seq (refsAt base n).toArray c', slots := #[] } →
        (∀ j x y, j < n → xs[j]? = some x → ys[j]? = some y → IsPair h' (base + j) x y) → R (.ok (.ret res)) { s with heap := h' }) →
      codeAny (model prog w) A (.builtin "list.extend.loop" ⟨[.ref S, .ref z, res], []⟩) R s := by
  simp only [List.mem_cons, List.not_mem_nil, or_false, not_or] at hS
  obtain ⟨sz, sTI, sTO, s1, s2, sl1, sl2⟩ := hS
  have ne : ∀ {c j : Nat}, c < base → base + j ≠ c := fun {c j} h => by omega
  intro k
  induction k with
  | zero =>
    intro i s c hk hi hsz Z gS hP hR
    have e : i = n := by omega
    subst e
    refine codeAny_builtin F.entry_extend_loop ?_
    rw [Around.under_plainId F.plain_extend_loop _]
    show wpAny _ A.in1 (pyNext (.ref z) >>= _) _ _ s
    have hend : xs[i]? = none ∨ ys[i]? = none := by
      rcases hn3 with q | q
      · exact .inl (Array.getElem?_eq_none (by omega))
      · exact .inr (Array.getElem?_eq_none (by omega))
    refine wpAny_bind (zip_pyEnd hh D Z hend fun h' kk => ?_)
    refine wpAny_pure (hR h' c (fun b o hb q => kk b o (fun hm => hb (List.mem_cons_of_mem _ hm)) q) (kk S _ (by simp [sz, sTO, s1, s2]) gS) fun j x y hj hx hy => kk _ _ ?_ (hP j x y hj hx hy))
    simp only [List.mem_cons, List.not_mem_nil, or_false, not_or]
    exact ⟨ne bz, ne bo, ne b1, ne b2⟩
  | succ k ih =>
    intro i s c hk hi hsz Z gS hP hR
    have hlt : i < n := by omega
    obtain ⟨x, hx⟩ : ∃ x, xs[i]? = some x := ⟨_, Array.getElem?_eq_getElem (show i < xs.size by omega)⟩
    obtain ⟨y, hy⟩ : ∃ y, ys[i]? = some y := ⟨_, Array.getElem?_eq_getElem (show i < ys.size by omega)⟩
    refine codeAny_builtin F.entry_extend_loop ?_
    rw [Around.under_plainId F.plain_extend_loop _]
    show wpAny _ A.in1 (pyNext (.ref z) >>= _) _ _ s
    refine wpAny_bind (zip_pyNext D Z (by rw [hsz]; exact Nat.le_add_right _ _) bz b1 b2 hx hy fun h' Z' pr hsz' kk => ?_)
    have gS' := kk S _ (by simp [sz, sTO, s1, s2]) gS
    show wpAny _ A.in1 (updateSeq S (·.push (.ref s.heap.objs.size)) >>= _) _ _ _
    have oth : ∀ (b : Addr) (o : Obj), b ≠ S → h'.get? b = some o → (h'.update S (Obj.mapSeq (·.push (.ref s.heap.objs.size)))).get? b = some o := fun b o hb e => (Heap.get?_update_other _ _ (Ne.symm hb)).trans e
    have Z2 : ZSt (h'.update S (Obj.mapSeq (·.push (.ref s.heap.objs.size)))) z TI TO i1 i2 l1 l2 base (i + 1) xs ys := by
      obtain ⟨zz, p2, ⟨a, b, p3⟩, p4, p5, p6, p7⟩ := Z'
      refine ⟨?_, oth _ _ (Ne.symm sTI) p2, ⟨a, b, oth _ _ (Ne.symm sTO) p3⟩, p4.at fun o e => oth _ o (Ne.symm s1) e, p5.at fun o e => oth _ o (Ne.symm s2) e, p6.at fun o e => oth _ o (Ne.symm sl1) e, p7.at fun o e => oth _ o (Ne.symm sl2) e⟩
      rcases zz with q | ⟨T, b, o, q1, q2, q3⟩
      · exact .inl (oth _ _ (Ne.symm sz) q)
      · exact .inr ⟨T, b, o, oth _ _ (Ne.symm sz) q1, q2, oth _ _ (Nat.ne_of_gt (Nat.lt_of_lt_of_le bS q2)) q3⟩
    have szr : (refsAt base i).toArray.size = i := by simp [refsAt]
    have ePush : (refsAt base i).toArray.push (.ref s.heap.objs.size) = (refsAt base (i + 1)).toArray := by rw [hsz]; exact refsAt_succ base i
    have gS2 := Heap.get?_update_self (Obj.mapSeq (·.push (Value.ref s.heap.objs.size))) gS' rfl
    refine wpAny_bind (wpAny_updateSeq gS' rfl (wpAny_pure ⟨plainId_quiet F.plain_extend_loop _, ih (i + 1) { s with heap := h'.update S (Obj.mapSeq (·.push (.ref s.heap.objs.size))) } _ (by omega) hlt ?_ Z2 (gS2.trans (by simp only [Obj.mapSeq, ePush]; rfl)) (fun j x' y' hj hx' hy' => ?_) fun h2 c2 k2 g2 p2 => ?_⟩) ?_ ?_)
    · show (h'.update S _).objs.size = _
      rw [(Heap.SameBut.update ..).1, hsz', hsz]; omega
    · by_cases c1 : j = i
      · subst c1
        rw [hx] at hx'; rw [hy] at hy'
        cases hx'; cases hy'
        rw [← hsz]
        exact oth _ _ (by rw [hsz]; exact ne bS) pr
      · exact oth _ _ (ne bS) (kk _ _ (by simp; exact ⟨ne bz, ne bo, ne b1, ne b2⟩) (hP j x' y' (by omega) hx' hy'))
    · refine hR h2 c2 (fun b o hb e => k2 b o hb (oth b o (fun q => hb (by rw [q]; exact List.mem_cons_self)) (kk b o (fun hm => hb (List.mem_cons_of_mem _ hm)) e))) g2 p2
    · rw [szr]; omega
    · show ((refsAt base i).toArray.push _).size ≤ sizeLine + 1
      rw [Array.size_push, szr]; omega
end
section
variable {prog : Program} {w : World} {A : Around} {s : Shared} {R : Result → Shared → Prop}
variable {z TI TO i1 i2 l1 l2 S base n : Nat} {xs ys : Array Value}
theorem zip_extend (hh : A.in1.handled = none) (D : ZipApart z TI TO i1 i2 l1 l2) (hS : S ∉ [z, TI, TO, i1, i2, l1, l2]) (bS : S < base) (bz : z < base) (bo : TO < base) (b1 : i1 < base) (b2 : i2 < base)
    (hn1 : n ≤ xs.size) (hn2 : n ≤ ys.size) (hn3 : n = xs.size ∨ n = ys.size) (hn : n ≤ sizeLine) (res : Value) (c₀ : Nat) (hsz : s.heap.objs.size = base) (Z : ZSt s.heap z TI TO i1 i2 l1 l2 base 0 xs ys)
    (gS : s.heap.get? S = some { cls := .type "list", data := .seq #[] c₀ })
    (hR : ∀ h' c', (∀ b o, b ∉ [S, z, TO, i1, i2] → s.heap.get? b = some o → h'.get? b = some o) → h'.get? S = some { cls := .type "list", dict := none, data := .seq (refsAt base n).toArray c', slots := #[] } →
        (∀ j x y, j < n → xs[j]? = some x → ys[j]? = some y → IsPair h' (base + j) x y) → R (.ok (.ret res)) { s with heap := h' }) :
    wpAny (model prog w) A.in1 (Builtin.List.listExtendWith (.ref S) (.ref z) res)
      (fun fin s' => match fin with | .done f => R (.ok f) s' | .again c' => c'.quiet = true ∧ codeAny (model prog w) A c' R s') (fun e s' => R (.error e) s') s := by
  have hS0 := hS
  simp only [List.mem_cons, List.not_mem_nil, or_false, not_or] at hS0
  obtain ⟨sz, sTI, sTO, s1, s2, sl1, sl2⟩ := hS0
  have hT : s.TypeIs (.ref z) "zip" := by
    rcases Z.z with q | ⟨T, b, o, q, _⟩
    · exact ⟨_, q, rfl⟩
    · exact ⟨_, q, rfl⟩
  unfold Builtin.List.listExtendWith
  refine wpAny_bind (wpAny_typeOf hT ?_)
  have h1 : Builtin.List.listSameRef (.ref S) (.ref z) = false := by simp [Builtin.List.listSameRef, sz]
  have h2 : (Value.type "zip" == Value.type "list") = false := by decide
  have h3 : (Value.type "zip" == Value.type "tuple") = false := by decide
  simp only [h1, h2, h3, Bool.or_false, Bool.false_eq_true, if_false]
  have self : ∀ Q : Value → Shared → Prop, Q (.ref z) s → wpAny (model prog w) A.in1 (pyIter (.ref z)) Q (fun e s' => R (.error e) s') s := fun Q q =>
    wpAny_pyIter_slot hT F.slot_zip_iter (wpAny_call_entry F.slot_zip_iter hT F.entry_zip_iter (wpAny_pure ⟨_, rfl, "zip", _, hT, F.slot_zip_next.lookup, q⟩) (F.args_zip_iter_1 _))
  refine wpAny_bind (self _ ?_)
  refine wpAny_bind (wpAny_holding ?_)
  unfold Builtin.List.listLengthHint
  refine wpAny_bind (wpAny_specialOf hT zi_no_len ?_)
  show wpAny _ A.in1 (specialOf (Value.ref z) (Str.ofString "__length_hint__") >>= _) _ _ _
  refine wpAny_bind (wpAny_specialOf hT zi_no_hint (wpAny_pure ?_))
  show wpAny _ A.in1 (rule "list.extend.makes-room" >>= fun _ => Builtin.List.listTouch (.ref S) >>= fun _ => again (.builtin "list.extend.loop" ⟨[.ref S, .ref z, res], []⟩)) _ _ _
  refine wpAny_bind (wpAny_rule (wpAny_bind ?_))
  show wpAny _ A.in1 (updateSeq S (·.push .none) >>= fun _ => updateSeq S (·.pop)) _ _ _
  refine wpAny_bind (wpAny_updateSeq gS rfl ?_)
  have g2 := Heap.get?_update_self (Obj.mapSeq (·.push Value.none)) gS rfl
  refine wpAny_updateSeq (hz := by seq_fits) g2 rfl ?_
  have g3 := Heap.get?_update_self (Obj.mapSeq (·.pop)) g2 rfl
  obtain ⟨h', hh'⟩ : ∃ h', (s.heap.update S (Obj.mapSeq (·.push Value.none))).update S (Obj.mapSeq (·.pop)) = h' := ⟨_, rfl⟩
  have oth : ∀ b o, b ≠ S → s.heap.get? b = some o → h'.get? b = some o := fun b o hb e => by
    rw [← hh']
    exact (Heap.get?_update_other _ _ (Ne.symm hb)).trans ((Heap.get?_update_other _ _ (Ne.symm hb)).trans e)
  have hsz' : h'.objs.size = base := by rw [← hh', (Heap.SameBut.update ..).1, (Heap.SameBut.update ..).1, hsz]
  rw [hh'] at g3
  have Z2 : ZSt h' z TI TO i1 i2 l1 l2 base 0 xs ys := by
    obtain ⟨zz, p2, ⟨a, b, p3⟩, p4, p5, p6, p7⟩ := Z
    refine ⟨?_, oth _ _ (Ne.symm sTI) p2, ⟨a, b, oth _ _ (Ne.symm sTO) p3⟩, p4.at fun o e => oth _ o (Ne.symm s1) e, p5.at fun o e => oth _ o (Ne.symm s2) e, p6.at fun o e => oth _ o (Ne.symm sl1) e, p7.at fun o e => oth _ o (Ne.symm sl2) e⟩
    rcases zz with q | ⟨T, b, o, q1, q2, q3⟩
    · exact .inl (oth _ _ (Ne.symm sz) q)
    · exact .inr ⟨T, b, o, oth _ _ (Ne.symm sz) q1, q2, oth _ _ (Nat.ne_of_gt (Nat.lt_of_lt_of_le bS q2)) q3⟩
  show wpAny _ A.in1 (again _) _ _ { s with heap := (s.heap.update S (Obj.mapSeq (·.push Value.none))).update S (Obj.mapSeq (·.pop)) }
  rw [hh']
  refine wpAny_pure ⟨plainId_quiet F.plain_extend_loop _, zip_loop hh D hS bS bz bo b1 b2 hn1 hn2 hn3 hn res n 0 { s with heap := h' } _ rfl (Nat.zero_le _) hsz' Z2 g3 (fun j _ _ hj => absurd hj (Nat.not_lt_zero _)) fun h2 c2 k2 g2 p2 => ?_⟩
  exact hR h2 c2 (fun b o hb e => k2 b o hb (oth b o (fun q => hb (by rw [q]; exact List.mem_cons_self)) e)) g2 p2
theorem zip_init (hh : A.in1.handled = none) (D : ZipApart z TI TO i1 i2 l1 l2) (hS : S ∉ [z, TI, TO, i1, i2, l1, l2]) (bS : S < base) (bz : z < base) (bo : TO < base) (b1 : i1 < base) (b2 : i2 < base)
    (hn1 : n ≤ xs.size) (hn2 : n ≤ ys.size) (hn3 : n = xs.size ∨ n = ys.size) (hn : n ≤ sizeLine) (hsz : s.heap.objs.size = base) (Z : ZSt s.heap z TI TO i1 i2 l1 l2 base 0 xs ys)
    (gS : s.heap.get? S = some { cls := .type "list", data := .seq #[] })
    (hR : ∀ h' c', (∀ b o, b ∉ [S, z, TO, i1, i2] → s.heap.get? b = some o → h'.get? b = some o) → h'.get? S = some { cls := .type "list", dict := none, data := .seq (refsAt base n).toArray c', slots := #[] } →
        (∀ j x y, j < n → xs[j]? = some x → ys[j]? = some y → IsPair h' (base + j) x y) → R (.ok (.ret .none)) { s with heap := h' }) :
    wpAny (model prog w) A.in1 (Builtin.«list.__init__» ⟨[.ref S, .ref z], []⟩)
      (fun fin s' => match fin with | .done f => R (.ok f) s' | .again c' => c'.quiet = true ∧ codeAny (model prog w) A c' R s') (fun e s' => R (.error e) s') s := by
  have hS0 := hS
  simp only [List.mem_cons, List.not_mem_nil, or_false, not_or] at hS0
  obtain ⟨sz, sTI, sTO, s1, s2, sl1, sl2⟩ := hS0
  show wpAny _ A.in1 (do let old ← Builtin.List.listItems (.ref S); Builtin.List.listUpdate (.ref S) (fun _ => #[]); letGo old.toList.reverse; Builtin.List.listExtendWith (.ref S) (.ref z) .none) _ _ s
  refine wpAny_bind ?_
  unfold Builtin.List.listItems
  refine wpAny_bind (wpAny_seqItems gS rfl (wpAny_pure ?_))
  show wpAny _ A.in1 (updateSeq S (fun _ => #[]) >>= fun _ => letGo (#[] : Array Value).toList.reverse >>= fun _ => Builtin.List.listExtendWith (.ref S) (.ref z) .none) _ _ s
  refine wpAny_bind (wpAny_updateSeq gS rfl ?_)
  have g2 := Heap.get?_update_self (Obj.mapSeq (fun _ => (#[] : Array Value))) gS rfl
  obtain ⟨h', hh'⟩ : ∃ h', s.heap.update S (Obj.mapSeq (fun _ => (#[] : Array Value))) = h' := ⟨_, rfl⟩
  have oth : ∀ b o, b ≠ S → s.heap.get? b = some o → h'.get? b = some o := fun b o hb e => by
    rw [← hh']
    exact (Heap.get?_update_other _ _ (Ne.symm hb)).trans e
  have hsz' : h'.objs.size = base := by rw [← hh', (Heap.SameBut.update ..).1, hsz]
  rw [hh'] at g2
  have Z2 : ZSt h' z TI TO i1 i2 l1 l2 base 0 xs ys := by
    obtain ⟨zz, p2, ⟨a, b, p3⟩, p4, p5, p6, p7⟩ := Z
    refine ⟨?_, oth _ _ (Ne.symm sTI) p2, ⟨a, b, oth _ _ (Ne.symm sTO) p3⟩, p4.at fun o e => oth _ o (Ne.symm s1) e, p5.at fun o e => oth _ o (Ne.symm s2) e, p6.at fun o e => oth _ o (Ne.symm sl1) e, p7.at fun o e => oth _ o (Ne.symm sl2) e⟩
    rcases zz with q | ⟨T, b, o, q1, q2, q3⟩
    · exact .inl (oth _ _ (Ne.symm sz) q)
    · exact .inr ⟨T, b, o, oth _ _ (Ne.symm sz) q1, q2, oth _ _ (Nat.ne_of_gt (Nat.lt_of_lt_of_le bS q2)) q3⟩
  show wpAny _ A.in1 (letGo (#[] : Array Value).toList.reverse >>= _) _ _ { s with heap := s.heap.update S (Obj.mapSeq (fun _ => (#[] : Array Value))) }
  rw [hh']
  refine wpAny_bind (wpAny_letGo ?_)
  refine zip_extend (s := { s with heap := h' }) hh D hS bS bz bo b1 b2 hn1 hn2 hn3 hn .none _ hsz' Z2 g2 fun h2 c2 k2 g2 p2 => ?_
  exact hR h2 c2 (fun b o hb e => k2 b o hb (oth b o (fun q => hb (by rw [q]; exact List.mem_cons_self)) e)) g2 p2
end
section
variable {prog : Program} {w : World} {A : Around} {E : Value → Shared → Prop} {s : Shared}
theorem list_of_zip {z TI TO i1 i2 l1 l2 n : Nat} {xs ys : Array Value} {Q : Value → Shared → Prop} (hh : A.handled = none) (D : ZipApart z TI TO i1 i2 l1 l2) (Z : ZSt s.heap z TI TO i1 i2 l1 l2 (s.heap.objs.size + 1) 0 xs ys)
    (bz : z < s.heap.objs.size) (bi : TI < s.heap.objs.size) (bo : TO < s.heap.objs.size) (b1 : i1 < s.heap.objs.size) (b2 : i2 < s.heap.objs.size) (hn1 : n ≤ xs.size) (hn2 : n ≤ ys.size) (hn3 : n = xs.size ∨ n = ys.size) (hn : n ≤ sizeLine)
    (hQ : ∀ h' c', (∀ b o, b ∉ [z, TO, i1, i2] → s.heap.get? b = some o → h'.get? b = some o) → h'.get? s.heap.objs.size = some { cls := .type "list", dict := none, data := .seq (refsAt (s.heap.objs.size + 1) n).toArray c', slots := #[] } →
        (∀ j x y, j < n → xs[j]? = some x → ys[j]? = some y → IsPair h' (s.heap.objs.size + 1 + j) x y) → Q (.ref s.heap.objs.size) { s with heap := h' }) :
    wpAny (model prog w) A (call (.type "list") [.ref z]) Q E s := by
  have lt1 : l1 < s.heap.objs.size := by obtain ⟨o, e, _⟩ := Z.l1; exact Heap.lt_size e
  have lt2 : l2 < s.heap.objs.size := by obtain ⟨o, e, _⟩ := Z.l2; exact Heap.lt_size e
  refine callType_codes (Q₁ := fun obj s₁ => obj = .ref s.heap.objs.size ∧ s₁ = { s with heap := s.heap.push { cls := .type "list", data := .seq #[] } }) F.called_list (F.typeCall_list_1 _) F.entry_list_init
    (code_list_new _ ⟨rfl, rfl⟩) fun obj s₁ h₁ => ?_
  obtain ⟨rfl, rfl⟩ := h₁
  have gS : (s.heap.push { cls := .type "list", data := .seq #[] }).get? s.heap.objs.size = some { cls := .type "list", data := .seq #[] } := Heap.get?_push_size _ rfl
  have up : ∀ b o, s.heap.get? b = some o → (s.heap.push { cls := .type "list", data := .seq #[] }).get? b = some o := fun b o e => Heap.get?_push_of_some _ e
  have Z2 : ZSt (s.heap.push { cls := .type "list", data := .seq #[] }) z TI TO i1 i2 l1 l2 (s.heap.objs.size + 1) 0 xs ys := by
    obtain ⟨zz, p2, ⟨a, b, p3⟩, p4, p5, p6, p7⟩ := Z
    refine ⟨?_, up _ _ p2, ⟨a, b, up _ _ p3⟩, p4.at fun o e => up _ o e, p5.at fun o e => up _ o e, p6.at fun o e => up _ o e, p7.at fun o e => up _ o e⟩
    rcases zz with q | ⟨T, b, o, q1, q2, q3⟩
    · exact .inl (up _ _ q)
    · exact .inr ⟨T, b, o, up _ _ q1, q2, up _ _ q3⟩
  refine ⟨⟨_, gS, rfl⟩, F.args_list_init_2 _ _, zip_init (s := { s with heap := s.heap.push { cls := .type "list", data := .seq #[] } }) (base := s.heap.objs.size + 1) hh D ?_ (Nat.lt_succ_self _) (Nat.lt_succ_of_lt bz) (Nat.lt_succ_of_lt bo) (Nat.lt_succ_of_lt b1) (Nat.lt_succ_of_lt b2) hn1 hn2 hn3 hn (Heap.size_push ..) Z2 gS fun h' c' kk g p => ?_⟩
  · simp only [List.mem_cons, List.not_mem_nil, or_false, not_or]
    exact ⟨Nat.ne_of_gt bz, Nat.ne_of_gt bi, Nat.ne_of_gt bo, Nat.ne_of_gt b1, Nat.ne_of_gt b2, Nat.ne_of_gt lt1, Nat.ne_of_gt lt2⟩
  · refine ⟨rfl, hQ h' c' (fun b o hb e => kk b o (fun hm => ?_) (up b o e)) g p⟩
    rcases List.mem_cons.mp hm with q | q
    · exact absurd (Heap.lt_size e) (by rw [q]; exact Nat.lt_irrefl _)
    · exact hb q
end
noncomputable def tieP (H : Hp) : List Addr → List V → List V → Hp
  | T :: Ts, x :: xs, y :: ys => tieP (upd H T (.tup [x, y])) Ts xs ys
  | _, _, _ => H
noncomputable def freeP (H : Hp) : List Addr → List V → List V → Prop
  | T :: Ts, x :: xs, y :: ys => H T = none ∧ freeP (upd H T (.tup [x, y])) Ts xs ys
  | _, _, _ => True
theorem tieP_none {b : Addr} : ∀ {Ts : List Addr} {xs ys : List V} {H : Hp}, H b = none → b ∉ Ts → tieP H Ts xs ys b = none
  | [], _, _, H, h, _ => by simpa [tieP] using h
  | T :: Ts, [], _, H, h, _ => by simpa [tieP] using h
  | T :: Ts, x :: xs, [], H, h, _ => by simpa [tieP] using h
  | T :: Ts, x :: xs, y :: ys, H, h, hb => by
    simp only [List.mem_cons, not_or] at hb
    exact tieP_none (Ts := Ts) (xs := xs) (ys := ys) (by rw [upd_ne hb.1]; exact h) hb.2
theorem inv_ties {X : Cx} {pins : List (Addr × Obj)} {σ : L2.St} {s s1 : Shared} {H1 : Hp} (I1 : Inv X pins σ H1 s1) : ∀ {Ts : List Addr} {xs ys : List V} {us vs : List Value} {H : Hp}, Inv X pins σ H s → (∀ T ∈ Ts, s1.heap.objs.size ≤ T) → (∀ T ∈ Ts, H T = none) → Ts.Nodup → Vals xs us → Vals ys vs →
    (∀ (j : Nat) (T : Addr) (u v : Value), Ts[j]? = some T → us[j]? = some u → vs[j]? = some v → s.heap.IsTuple T #[u, v]) → Inv X pins σ (tieP H Ts xs ys) s ∧ freeP H Ts xs ys
  | [], xs, ys, us, vs, H, I, _, _, _, _, _, _ => by simp only [tieP, freeP]; exact ⟨I, trivial⟩
  | T :: Ts, [], ys, us, vs, H, I, _, _, _, _, _, _ => by simp only [tieP, freeP]; exact ⟨I, trivial⟩
  | T :: Ts, x :: xs, [], us, vs, H, I, _, _, _, _, _, _ => by simp only [tieP, freeP]; exact ⟨I, trivial⟩
  | T :: Ts, x :: xs, y :: ys, us, vs, H, I, hb, hf, nd, r1, r2, hT => by
    cases r1 with
    | cons r1 r1' => cases r2 with
      | cons r2 r2' =>
        rename_i u us v vs
        have t0 : s1.heap.objs.size ≤ T := hb T List.mem_cons_self
        have f0 : FpOk X pins H T := I1.fpOk t0 (hf T List.mem_cons_self)
        have nd' := List.nodup_cons.mp nd
        have I2 := inv_tup (xs := [x, y]) (its := [u, v]) I f0 (Nat.le_trans I1.sz t0) (hT 0 T u v rfl rfl rfl) (.cons r1 (.cons r2 .nil)) (Nat.le_of_lt (small1000 (by show 2 ≤ 1000; decide)))
        obtain ⟨a, b⟩ := inv_ties I1 (Ts := Ts) I2 (fun T' h => hb T' (List.mem_cons_of_mem _ h)) (fun T' h => by
          rw [upd_ne (fun z => nd'.1 (by rw [← z]; exact h))]
          exact hf T' (List.mem_cons_of_mem _ h)) nd'.2 r1' r2' fun j T' u' v' h1 h2 h3 => hT (j + 1) T' u' v' h1 h2 h3
        exact ⟨a, hf T List.mem_cons_self, b⟩
theorem tie_ext {K : PySem.W.Frag} : ∀ {Ts : List Addr} {xs ys : List V} {ds es : List PyData} {G H : Hp}, Sub G H → DVs K G xs ds → DVs K G ys es → Ts.length = min xs.length ys.length → freeP H Ts xs ys → ∃ G', Ext G H G' (tieP H Ts xs ys) ∧ DVs K G' (Ts.map V.ref) (pairD ds es)
  | [], xs, ys, ds, es, G, H, s, d1, d2, hl, _ => by
    refine ⟨G, by simp only [tieP]; exact .refl s, ?_⟩
    have : (pairD ds es).length = 0 := by
      rw [pairD_len, ← d1.len, ← d2.len]; simpa using hl.symm
    rw [List.length_eq_zero_iff.mp this]
    exact .nil
  | T :: Ts, [], ys, ds, es, G, H, s, d1, d2, hl, _ => by simp at hl
  | T :: Ts, x :: xs, [], ds, es, G, H, s, d1, d2, hl, _ => by simp at hl
  | T :: Ts, x :: xs, y :: ys, _, _, G, H, s, .cons a1 a2, .cons c1 c2, hl, hf => by
    obtain ⟨h0, hf⟩ := hf
    have e := ext_new (xs := [x, y]) s h0
    obtain ⟨G', e', d'⟩ := tie_ext (Ts := Ts) e.s (dvs_same e.g a2) (dvs_same e.g c2) (by simp at hl; omega) hf
    refine ⟨G', e.trans e', ?_⟩
    exact .cons (dv_same e'.g (.tup (SqT.of upd_same) (.cons (dv_same e.g a1) (.cons (dv_same e.g c1) .nil)))) d'
theorem vals_refs : ∀ Ts : List Addr, Vals (Ts.map V.ref) (Ts.map Value.ref)
  | [] => .nil
  | T :: Ts => .cons rfl (vals_refs Ts)
section
variable {X : Cx} {K : PySem.W.Frag}
noncomputable def tListZip (K : PySem.W.Frag) (t : TA) : TE := fun σ H Q => t σ H fun vs H1 => ∃ a b xs ys, vs = [.ref a, .ref b] ∧ SqL K H1 a xs ∧ SqL K H1 b ys ∧
  ∀ Ts l, Ts.length = min xs.length ys.length → freeP H1 Ts xs ys → tieP H1 Ts xs ys l = none → Q (.ref l) (upd (tieP H1 Ts xs ys) l (.lst (Ts.map V.ref)))
theorem pe_listzip {a b : Expr} {ta : TA} {p p2 pos pos2 : Pos} (hK : X.K = K) (hc : X.calm = true) (hgl : Gl X "list") (hml : X.mg "list" = none) (hg : Gl X "zip") (hm : X.mg "zip" = none) (ha : PA X [a, b] ta) (hs : starEach [a, b] X.env = [(false, eval a X.env), (false, eval b X.env)] := by rfl) (hsb : starEach [b] X.env = [(false, eval b X.env)] := by rfl)
    (hs2 : starEach [(.Call (.Name "zip" p2) [a, b] [] pos2 : Expr)] X.env = [(false, eval (.Call (.Name "zip" p2) [a, b] [] pos2) X.env)] := by rfl) :
    PE X (.Call (.Name "list" p) [.Call (.Name "zip" p2) [a, b] [] pos2] [] pos) (tListZip K ta) := by
  subst hK
  intro pins s σ H Q I h
  refine Call_ (ld_blt I hgl hml PyProof.Rows.boot_list (PyProof.Rows.callWith_type1 ?_ (by rw [hs2]; rfl) (by rfl)))
  rw [hs2]
  show wpAny _ _ (spliced ((false, eval (.Call (.Name "zip" p2) [a, b] [] pos2) X.env) :: backTo pos [])) _ _ s
  refine Calls.spliced_cons (Call_ (ld_blt I hg hm boot_zip (PyProof.Rows.callWith_type1 (thn (ha pos2 pins s σ H _ I h) fun us s1 ⟨vs, H1, I1, r1, q1⟩ => ?_) (by rw [hs, hsb]) (by rw [hsb]; rfl))))
  obtain ⟨a', b', xs, ys, e, g1, g2, q⟩ := q1
  subst e
  obtain ⟨u, v, rfl, ru, rv⟩ := vals2 r1
  cases ru; cases rv
  obtain ⟨its1, rv1, p1, z1⟩ := I1.list g1
  obtain ⟨its2, rv2, p2, z2⟩ := I1.list g2
  have L1 := rv1.length
  have L2 := rv2.length
  have a1 : a' < s1.heap.objs.size := by obtain ⟨_, e, _⟩ := p1.isList; exact Heap.lt_size e
  have a2 : b' < s1.heap.objs.size := by obtain ⟨_, e, _⟩ := p2.isList; exact Heap.lt_size e
  refine call_zip_2 p1.isList p2.isList fun h' hz hTI hTO hi1 hi2 hsz hk => Calls.spliced_nil ?_
  have I2 : Inv X pins σ H1 { s1 with heap := h' } := I1.kept (t' := s1.toks) hk
  obtain ⟨n, hn⟩ : ∃ n, min xs.length ys.length = n := ⟨_, rfl⟩
  refine list_of_zip (s := { s1 with heap := h' }) (n := n) (xs := its1.toArray) (ys := its2.toArray) (I1.ok.hd hc) (zipApart_new a1 a2) ⟨.inl hz, hTI, ⟨_, _, hTO⟩, hi1, hi2, p1.isList.at fun o e => hk _ o e, p2.isList.at fun o e => hk _ o e⟩
    (by rw [hsz]; omega) (by rw [hsz]; omega) (by rw [hsz]; omega) (by rw [hsz]; omega) (by rw [hsz]; omega) (by simp; omega) (by simp; omega) (by simp; omega) (by omega) fun h2 c' kk gS hP => ?_
  obtain ⟨bs, hbs⟩ : ∃ bs, h'.objs.size + 1 = bs := ⟨_, rfl⟩
  have fw : ∀ b ∈ [s1.heap.objs.size + 4, s1.heap.objs.size + 3, s1.heap.objs.size, s1.heap.objs.size + 1], FpOk X pins H1 b := fun b hb => by
    have hb2 : s1.heap.objs.size ≤ b := by
      simp only [List.mem_cons, List.not_mem_nil, or_false] at hb
      rcases hb with rfl | rfl | rfl | rfl <;> omega
    exact I1.fpOk hb2 (I1.hok.fresh hb2)
  have I3 : Inv X pins σ H1 { s1 with heap := h2 } := inv_turnedAll (s := { s1 with heap := h' }) (t' := s1.toks) I2 kk fw
  obtain ⟨Ts, hTs⟩ : ∃ Ts : List Addr, (List.range n).map (fun j => bs + j) = Ts := ⟨_, rfl⟩
  have Tl : Ts.length = n := by rw [← hTs]; simp
  have Tm : ∀ T ∈ Ts, bs ≤ T := fun T hT => by
    rw [← hTs] at hT
    obtain ⟨j, _, rfl⟩ := List.mem_map.mp hT
    exact Nat.le_add_right _ _
  have Tn : Ts.Nodup := by
    rw [← hTs, List.Nodup, List.pairwise_map]
    exact List.nodup_range.imp fun h e => h (Nat.add_left_cancel e)
  have bge : s1.heap.objs.size ≤ bs := by rw [← hbs, hsz]; omega
  obtain ⟨I4, fr4⟩ := inv_ties I1 (Ts := Ts) I3 (fun T h => Nat.le_trans bge (Tm T h)) (fun T h => I1.hok.fresh (Nat.le_trans bge (Tm T h))) Tn rv1 rv2 fun j T u v h1 h2' h3 => by
    have hj : j < n := by rw [← Tl]; exact (List.getElem?_eq_some_iff.mp h1).1
    have eT : T = bs + j := by
      rw [← hTs] at h1
      simp [hj] at h1
      exact h1.symm
    have := hP j u v hj (by simpa using h2') (by simpa using h3)
    rw [eT, ← hbs]
    exact ⟨_, this, rfl, _, rfl⟩
  have hl0 : tieP H1 Ts xs ys h'.objs.size = none := tieP_none (I1.hok.fresh (by rw [hsz]; omega)) fun hm => by
    have := Tm _ hm
    omega
  have I5 := inv_new (o := .lst (Ts.map V.ref)) I4 (I1.fpOk (by rw [hsz]; omega) hl0) (Nat.le_trans I1.sz (by rw [hsz]; omega)) ⟨by rw [List.length_map, Tl]; omega, Ts.map Value.ref, c', vals_refs Ts, by
    have er : Ts.map Value.ref = refsAt (h'.objs.size + 1) n := by rw [← hTs, hbs, List.map_map]; rfl
    rw [er]; exact gS⟩
  exact ⟨.ref _, _, I5, rfl, q Ts _ (by rw [Tl, hn]) fr4 hl0⟩
end
section
variable {K : PySem.W.Frag} {H₀ : Hp} {E : XK} {ta tb : TE} {dl dk : DL}
theorem ov_listzip (h1 : LvD K H₀ E ta dl) (h2 : LvD K H₀ E tb dk) : OvD K H₀ E (tListZip K (tCons ta (tCons tb tNil))) (dZip dl dk) := fun ex δ σ G H Qd Q hx S q k =>
  h1 ex δ σ G H _ _ hx S q fun a vs xs G1 H1 e1 a1 a2 q1 => h2 ex δ σ G1 H1 _ _ hx (S.ext e1) q1 fun b ws ys G2 H2 e2 b1 b2 q2 =>
    ⟨a, b, vs, ws, rfl, e2.h.seq a1, b1, fun Ts l hl hf hn => by
      obtain ⟨G3, e3, d3⟩ := tie_ext e2.s (dvs_same e2.g a2) b2 hl hf
      obtain ⟨e4, g4⟩ := ext_newL (xs := Ts.map V.ref) (p := l) e3.s hn
      exact k l _ _ _ _ ((e1.trans e2).trans (e3.trans e4)) (((e1.trans e2).trans e3).h.free hn) g4 upd_same d3 q2⟩
end
section
variable {X : Cx} {K : PySem.W.Frag}
theorem numAt_list (ys : List (Int × Tok)) (i : Nat) : numAt ys.toArray i = ((ys.map (·.1))[i]?).getD 0 := by
  simp [numAt]
theorem call_max1 (hc : X.calm = true) : CallR X (.builtin "max") (fun xs H Q => ∃ (p : Addr) (ns : List Int), xs = [.ref p] ∧ SqL X.K H p (ns.map V.int) ∧ ns ≠ [] ∧ ∀ m ∈ ns, (∀ n ∈ ns, n ≤ m) → Q (.int m) H) := by
  intro pins s σ H xs us Q I r h
  obtain ⟨p, ns, rfl, hq, hne, q⟩ := h
  obtain ⟨u, rfl, rx⟩ := vals1 r
  cases rx
  obtain ⟨its, r', pl, hz⟩ := I.list hq
  obtain ⟨ys, rfl, e⟩ := ints_vals r'
  have hl : s.heap.IsList p (intItems ys.toArray) := by
    have := pl.isList
    simpa [intItems] using this
  have yl : 0 < ys.length := by
    have : ns.length = ys.length := by rw [← e, List.length_map]
    have := List.length_pos_iff.mpr hne
    omega
  obtain ⟨b1, b2⟩ := argBest_gt (numAt ys.toArray) (ys.toArray.size - 1)
  refine max_intList (I.ok.hd hc) hl (by simpa using yl) fun v h' tk hv hk => ?_
  obtain ⟨t, rfl⟩ := intItems_at hv
  generalize argBest (fun i j => decide (numAt ys.toArray i > numAt ys.toArray j)) (ys.toArray.size - 1) = j at *
  have el : ns.length = ys.length := by rw [← e, List.length_map]
  have ev := numAt_list ys j
  rw [e] at ev
  have hj : j < ns.length := by simp at b1; omega
  rw [ev] at b2 ⊢
  refine ⟨.int (ns[j]?.getD 0), H, I.kept (t' := tk) hk, ⟨t, rfl⟩, q _ ?_ fun n hn => ?_⟩
  · rw [List.getElem?_eq_getElem hj]; exact List.getElem_mem hj
  · obtain ⟨i, hi, rfl⟩ := List.getElem_of_mem hn
    have := b2 i (by simp; omega)
    rw [numAt_list, e, List.getElem?_eq_getElem hi] at this
    exact this
theorem call_min1 (hc : X.calm = true) : CallR X (.builtin "min") (fun xs H Q => ∃ (p : Addr) (ns : List Int), xs = [.ref p] ∧ SqL X.K H p (ns.map V.int) ∧ ns ≠ [] ∧ ∀ m ∈ ns, (∀ n ∈ ns, m ≤ n) → Q (.int m) H) := by
  intro pins s σ H xs us Q I r h
  obtain ⟨p, ns, rfl, hq, hne, q⟩ := h
  obtain ⟨u, rfl, rx⟩ := vals1 r
  cases rx
  obtain ⟨its, r', pl, hz⟩ := I.list hq
  obtain ⟨ys, rfl, e⟩ := ints_vals r'
  have hl : s.heap.IsList p (intItems ys.toArray) := by
    have := pl.isList
    simpa [intItems] using this
  have yl : 0 < ys.length := by
    have : ns.length = ys.length := by rw [← e, List.length_map]
    have := List.length_pos_iff.mpr hne
    omega
  obtain ⟨b1, b2⟩ := argBest_lt (numAt ys.toArray) (ys.toArray.size - 1)
  refine min_intList (I.ok.hd hc) hl (by simpa using yl) fun v h' tk hv hk => ?_
  obtain ⟨t, rfl⟩ := intItems_at hv
  generalize argBest (fun i j => decide (numAt ys.toArray i < numAt ys.toArray j)) (ys.toArray.size - 1) = j at *
  have el : ns.length = ys.length := by rw [← e, List.length_map]
  have ev := numAt_list ys j
  rw [e] at ev
  have hj : j < ns.length := by simp at b1; omega
  rw [ev] at b2 ⊢
  refine ⟨.int (ns[j]?.getD 0), H, I.kept (t' := tk) hk, ⟨t, rfl⟩, q _ ?_ fun n hn => ?_⟩
  · rw [List.getElem?_eq_getElem hj]; exact List.getElem_mem hj
  · obtain ⟨i, hi, rfl⟩ := List.getElem_of_mem hn
    have := b2 i (by simp; omega)
    rw [numAt_list, e, List.getElem?_eq_getElem hi] at this
    exact this
theorem max1K (h : X.K = K) (hc : X.calm = true) : CallR X (.builtin "max") (fun xs H Q => ∃ (p : Addr) (ns : List Int), xs = [.ref p] ∧ SqL K H p (ns.map V.int) ∧ ns ≠ [] ∧ ∀ m ∈ ns, (∀ n ∈ ns, n ≤ m) → Q (.int m) H) := by subst h; exact call_max1 hc
theorem min1K (h : X.K = K) (hc : X.calm = true) : CallR X (.builtin "min") (fun xs H Q => ∃ (p : Addr) (ns : List Int), xs = [.ref p] ∧ SqL K H p (ns.map V.int) ∧ ns ≠ [] ∧ ∀ m ∈ ns, (∀ n ∈ ns, m ≤ n) → Q (.int m) H) := by subst h; exact call_min1 hc
noncomputable def bMax1 (ds : List PyData) (Q : PyData → Prop) : Prop := match ds with
  | [.list xs] => ∃ ns : List Int, xs = ns.map PyData.int ∧ ns ≠ [] ∧ ∀ m ∈ ns, (∀ n ∈ ns, n ≤ m) → Q (.int m)
  | _ => False
noncomputable def bMin1 (ds : List PyData) (Q : PyData → Prop) : Prop := match ds with
  | [.list xs] => ∃ ns : List Int, xs = ns.map PyData.int ∧ ns ≠ [] ∧ ∀ m ∈ ns, (∀ n ∈ ns, m ≤ n) → Q (.int m)
  | _ => False
theorem rb_max1 : RCb K (fun xs H Q => ∃ (p : Addr) (ns : List Int), xs = [.ref p] ∧ SqL K H p (ns.map V.int) ∧ ns ≠ [] ∧ ∀ m ∈ ns, (∀ n ∈ ns, n ≤ m) → Q (.int m) H) bMax1 := by
  intro G H xs ds Qd Q h q k
  unfold bMax1 at q
  split at q
  · obtain ⟨x, rfl, hx⟩ := dvs1 h
    obtain ⟨ns, rfl, hne, q⟩ := q
    obtain ⟨a, vs, rfl, h1, h2⟩ := dv_list hx
    cases dvs_ints h2
    exact ⟨a, ns, rfl, h1, hne, fun m hm hb => k _ _ (.int _) (q m hm hb)⟩
  · exact q.elim
theorem rb_min1 : RCb K (fun xs H Q => ∃ (p : Addr) (ns : List Int), xs = [.ref p] ∧ SqL K H p (ns.map V.int) ∧ ns ≠ [] ∧ ∀ m ∈ ns, (∀ n ∈ ns, m ≤ n) → Q (.int m) H) bMin1 := by
  intro G H xs ds Qd Q h q k
  unfold bMin1 at q
  split at q
  · obtain ⟨x, rfl, hx⟩ := dvs1 h
    obtain ⟨ns, rfl, hne, q⟩ := q
    obtain ⟨a, vs, rfl, h1, h2⟩ := dv_list hx
    cases dvs_ints h2
    exact ⟨a, ns, rfl, h1, hne, fun m hm hb => k _ _ (.int _) (q m hm hb)⟩
  · exact q.elim
end
section
variable {X : Cx} {K : PySem.W.Frag}
end
section
variable {K : PySem.W.Frag} {H₀ : Hp} {E : XK} {te ta tb : TE} {da de : DE} {dl dk : DL}
end
section
variable {K : PySem.W.Frag} {H₀ : Hp} {E : XK} {dl : DL} {t : TA} {g : TG} {dg : DG} {ns : List Nat}
end
section
variable {X : Cx} {K : PySem.W.Frag}
end
section
variable {K : PySem.W.Frag} {H₀ : Hp} {E : XK} {te ta tb : TE} {da db : DE} {dl : DL}
end
section
variable {prog : Program} {w : World} {A : Around} {E : Value → Shared → Prop} {s : Shared}
end
section
variable {prog : Program} {w : World} {A : Around} {E : Value → Shared → Prop} {s : Shared}
end
section
variable {X : Cx} {K : PySem.W.Frag}
end
section
variable {K : PySem.W.Frag} {H₀ : Hp} {E : XK} {ta tb : TE} {da db : DE}
end
noncomputable def dFzV (i : Nat) (_ex : DX) (δ : DEn) (Q : PyData → Prop) : Prop := match slot δ i with
  | some (.fz _ d) => Q d
  | _ => False
noncomputable def mask : List Bool → DEn → DEn
  | true :: bs, x :: xs => x :: mask bs xs
  | false :: bs, _ :: xs => none :: mask bs xs
  | _, _ => []
theorem mask_len : ∀ (bs : List Bool) (δ : DEn), (mask bs δ).length ≤ δ.length
  | true :: bs, x :: xs => by simp only [mask, List.length_cons]; have := mask_len bs xs; omega
  | false :: bs, x :: xs => by simp only [mask, List.length_cons]; have := mask_len bs xs; omega
  | [], _ => by simp [mask]
  | true :: _, [] => by simp [mask]
  | false :: _, [] => by simp [mask]
theorem mask_slot : ∀ {bs : List Bool} {δ : DEn} {i : Nat} {s : Sl}, slot (mask bs δ) i = some s → slot δ i = some s
  | true :: bs, x :: xs, 0, s, h => h
  | true :: bs, x :: xs, i + 1, s, h => mask_slot (bs := bs) (δ := xs) (i := i) h
  | false :: bs, x :: xs, 0, s, h => by cases h
  | false :: bs, x :: xs, i + 1, s, h => mask_slot (bs := bs) (δ := xs) (i := i) h
  | [], _, _, _, h => by cases h
  | true :: _, [], _, _, h => by cases h
  | false :: _, [], _, _, h => by cases h
section
variable {K : PySem.W.Frag} {H₀ : Hp} {E : XK} {te : TE} {de : DE} {dl : DL} {t : TA} {ts tz : TS} {ds : DS} {w : DW}
theorem ev_fz (i : Nat) : EvD K H₀ E (tVar i) (dFzV i) := fun ex δ σ G H Qd Q hx S q k => by
  unfold dFzV at q
  split at q
  · rename_i as d hs
    obtain ⟨v, h1, h2⟩ := S.has i _ hs
    exact ⟨v, h1, k v d G H S.refl (FzIs.dv h2) q⟩
  · exact q.elim
theorem Sees.frzL {G H : Hp} {δ : DEn} {σ : L2.St} {i : Nat} {xs : List PyData} (S : Sees K H₀ G δ σ H) (h : slot δ i = some (.own xs)) : ∃ m G', G m = none ∧ Same G G' ∧ Sees K H₀ G' (put (some (.fz [m] (.list xs))) i δ) σ H := by
  obtain ⟨a, vs, q1, q2, q3, q4⟩ := S.ownAt h
  obtain ⟨v0, w1, w2⟩ := S.has i _ h
  have sg : Same G (upd G a (.lst vs)) := fun b o e => by rw [upd_ne (ne_of_none e q2)]; exact e
  have look : ∀ j u, slot (put (some (.fz [a] (.list xs))) i δ) j = some u → (j = i ∧ u = .fz [a] (.list xs)) ∨ (j ≠ i ∧ slot δ j = some u) := fun j u hj => by
    rw [slot_put] at hj
    split at hj
    · rename_i hc
      cases hj
      exact .inl ⟨hc.1, rfl⟩
    · rename_i hc
      exact .inr ⟨fun z => hc ⟨z, by rw [← z]; exact slot_lt hj⟩, hj⟩
  refine ⟨a, upd G a (.lst vs), q2, sg, S.old.trans sg, fun b => ?_, by rw [put_len]; exact S.len, fun j u hj => ?_, fun j k xs' ys' c hj hk e1 e2 => ?_⟩
  · by_cases z : b = a
    · subst z
      exact .inl (by rw [upd_same, q3])
    · rw [upd_ne z]; exact S.sub b
  · rcases look j u hj with ⟨rfl, rfl⟩ | ⟨n1, h1⟩
    · exact ⟨_, q1, FzIs.one upd_same (dvs_same sg q4)⟩
    · obtain ⟨v, h2, h3⟩ := S.has j u h1
      refine ⟨v, h2, ?_⟩
      cases u with
      | dat d => exact dv_same sg h3
      | two xs ys => exact h3.elim
      | fz as d => exact FzIs.same sg h3
      | exc C =>
        obtain ⟨x, rfl, hx⟩ := h3
        exact ⟨x, rfl, sg _ _ hx⟩
      | own zs =>
        obtain ⟨c, ws, rfl, p1, p2, p3⟩ := h3
        refine ⟨c, ws, rfl, ?_, p2, dvs_same sg p3⟩
        rw [upd_ne (fun z => ?_)]
        · exact p1
        · subst z
          exact n1 (S.sep j i zs xs c h1 h h2 q1)
  · rcases look j _ hj with ⟨_, z⟩ | ⟨n1, h1⟩
    · cases z
    · rcases look k _ hk with ⟨_, z⟩ | ⟨n2, h2⟩
      · cases z
      · exact S.sep j k xs' ys' c h1 h2 e1 e2
end
section
variable {K : PySem.W.Frag} {H₀ : Hp} {E : XK} {ta tb : TE} {da db : DE}
end
section
variable {K : PySem.W.Frag} {H₀ : Hp} {E : XK} {ta tb tc : TE} {da db dc : DE} {f g : Int → Int → Bool}
end
section
variable {X : Cx} {e es : Expr} {te : TE} {ts : TO} {pos p2 : Pos}
end
section
variable {K : PySem.W.Frag} {H₀ : Hp} {E : XK} {te : TE} {dl : DL} {t1 : TO} {d1 : DO}
end
section
variable {K : PySem.W.Frag} {H₀ : Hp} {E : XK}
end
section
variable {K : PySem.W.Frag} {H₀ : Hp} {E : XK} {te : TE} {de : DE} {dl : DL} {t : TA} {ts tz : TS} {ds : DS} {w : DW}
end
section
variable {K : PySem.W.Frag} {H₀ : Hp} {E : XK} {te ta tb : TE} {de da db : DE} {t1 t2 : TO} {d1 d2 : DO}
end
section
variable {K : PySem.W.Frag} {H₀ : Hp} {E : XK} {tb : TE} {db : DE} {dl : DL} {t : TA} {g : TG} {dg : DG} {ns : List Nat}
end
section
variable {K : PySem.W.Frag} {H₀ : Hp} {E : XK} {te : TE} {de : DE} {ta : TA} {dl : DL} {ts : TS} {ds : DS} {g : TG} {dg : DG} {ns : List Nat}
end
section
variable {X : Cx}
end
section
variable {K : PySem.W.Frag} {H₀ : Hp} {E : XK} {te : TE} {de : DE} {dl : DL} {t : TA} {tt : TT} {dt : DT} {ts tz : TS} {ds dz : DS}
end
section
variable {K : PySem.W.Frag} {H₀ : Hp} {E : XK}
end
section
variable {X : Cx}
end
section
variable {K : PySem.W.Frag} {H₀ : Hp} {E : XK} {te ta tb : TE} {de da db : DE} {t1 t2 : TO} {d1 d2 : DO}
end
section
variable {K : PySem.W.Frag} {G H G' H' : Hp}
theorem Rws.len : ∀ {bs : List Addr} {dss : List (List PyData)}, Rws K G H bs dss → bs.length = dss.length
  | _, _, .nil => rfl
  | _, _, .cons _ _ r => congrArg (· + 1) r.len
theorem Rws.snoc {b : Addr} {vs : List V} {ds : List PyData} (h1 : H b = some (.lst vs)) (h2 : DVs K G vs ds) : ∀ {bs : List Addr} {dss : List (List PyData)}, Rws K G H bs dss → Rws K G H (bs ++ [b]) (dss ++ [ds])
  | _, _, .nil => .cons h1 h2 .nil
  | _, _, .cons h3 h4 r => .cons h3 h4 (r.snoc h1 h2)
theorem Rws.ne {c : Addr} {o : HO} : ∀ {bs : List Addr} {dss : List (List PyData)}, c ∉ bs → Rws K G H bs dss → Rws K G (upd H c o) bs dss
  | _, _, _, .nil => .nil
  | _, _, n, .cons h1 h2 r => .cons (by rw [upd_ne (fun z => n (by rw [z]; exact List.mem_cons_self))]; exact h1) h2 (r.ne fun z => n (List.mem_cons_of_mem _ z))
theorem Rws.at : ∀ {bs : List Addr} {dss : List (List PyData)} {j : Nat} {ds : List PyData}, Rws K G H bs dss → dss[j]? = some ds → ∃ b vs, bs[j]? = some b ∧ H b = some (.lst vs) ∧ DVs K G vs ds
  | _, _, _, _, .nil, e => by simp at e
  | _, _, 0, _, .cons h1 h2 _, e => by
    simp at e
    subst e
    exact ⟨_, _, rfl, h1, h2⟩
  | _, _, j + 1, _, .cons _ _ r, e => by
    obtain ⟨b, vs, e1, h⟩ := r.at (j := j) (by simpa using e)
    exact ⟨b, vs, by simpa using e1, h⟩
theorem Rws.set {b : Addr} {vs : List V} {ds : List PyData} (h2 : DVs K G vs ds) : ∀ {bs : List Addr} {dss : List (List PyData)} {j : Nat}, bs.Nodup → bs[j]? = some b → Rws K G H bs dss → Rws K G (upd H b (.lst vs)) bs (dss.set j ds)
  | _, _, _, _, e, .nil => by simp at e
  | _, _, 0, nd, e, .cons h3 h4 r => by
    simp at e
    subst e
    exact .cons upd_same h2 (r.ne (List.nodup_cons.mp nd).1)
  | _, _, j + 1, nd, e, .cons h3 h4 r => by
    have e2 := e
    simp at e2
    have hm : b ∈ _ := List.mem_of_getElem? e2
    refine .cons ?_ h4 (Rws.set h2 (List.nodup_cons.mp nd).2 e2 r)
    rw [upd_ne (fun z => (List.nodup_cons.mp nd).1 (by rw [z]; exact hm))]
    exact h3
theorem Rws.isl {c : Addr} : ∀ {bs : List Addr} {dss : List (List PyData)}, c ∈ bs → Rws K G H bs dss → ∃ xs, H c = some (.lst xs)
  | _, _, m, .nil => by cases m
  | _, _, m, .cons h1 h2 r => by
    rcases List.mem_cons.mp m with rfl | m
    · exact ⟨_, h1⟩
    · exact r.isl m
end
structure Gst (K : PySem.W.Frag) (H₀ G : Hp) (t : Nat) (δ : DEn) (σ : L2.St) (H : Hp) (a : Addr) (bs : List Addr) (dss : List (List PyData)) : Prop where
  un : Sees K H₀ G (put none t δ) σ H
  dt : ∀ i s, slot δ i = some s → (∃ d, s = .dat d) ∨ ∃ xs c, s = .own xs ∧ σ[i]? = some (some (.ref c)) ∧ c ∉ a :: bs
  sl : slot δ t = some (.dat (.list (dss.map PyData.list)))
  pl : σ[t]? = some (some (.ref a))
  ga : ∀ c ∈ a :: bs, G c = none
  nd : (a :: bs).Nodup
  ha : H a = some (.lst (bs.map V.ref))
  rw : Rws K G H bs dss
noncomputable def GSees (K : PySem.W.Frag) (H₀ G : Hp) (t : Nat) (δ : DEn) (σ : L2.St) (H : Hp) : Prop := ∃ a bs dss, Gst K H₀ G t δ σ H a bs dss
section
variable {K : PySem.W.Frag} {H₀ G H G' H' : Hp} {t : Nat} {δ : DEn} {σ : L2.St} {a : Addr} {bs : List Addr} {dss : List (List PyData)}
open Classical in
theorem Gst.frz (S : Gst K H₀ G t δ σ H a bs dss) : ∃ Gf : Hp, Same G Gf ∧ (∀ c, c ∉ a :: bs → Gf c = G c) ∧ (∀ c ∈ a :: bs, Gf c = H c) ∧ Sees K H₀ Gf δ σ H := by
  obtain ⟨Gf, hGf⟩ : ∃ Gf : Hp, ∀ c, Gf c = if c ∈ a :: bs then H c else G c := ⟨fun c => if c ∈ a :: bs then H c else G c, fun c => rfl⟩
  have f1 : ∀ c, c ∉ a :: bs → Gf c = G c := fun c h => by rw [hGf, if_neg h]
  have f2 : ∀ c ∈ a :: bs, Gf c = H c := fun c h => by rw [hGf, if_pos h]
  have sm : Same G Gf := fun c o z => by
    rw [f1 c fun h => by rw [S.ga c h] at z; cases z]; exact z
  refine ⟨Gf, sm, f1, f2, S.un.old.trans sm, fun c => ?_, by have := S.un.len; rw [put_len] at this; exact this, fun i s h => ?_, fun i j xs ys c h => ?_⟩
  · by_cases h : c ∈ a :: bs
    · exact .inl (f2 c h)
    · rw [f1 c h]; exact S.un.sub c
  · by_cases hi : i = t
    · subst hi
      rw [S.sl] at h
      cases h
      refine ⟨_, S.pl, .lst (SqL.of (xs := bs.map V.ref) (by rw [f2 a List.mem_cons_self]; exact S.ha)) (S.rw.dv Gf sm fun c hc => f2 c (List.mem_cons_of_mem _ hc))⟩
    · have hu : slot (put none t δ) i = some s := by rw [slot_put, if_neg (fun z => hi z.1)]; exact h
      obtain ⟨v, h1, h2⟩ := S.un.has i s hu
      refine ⟨v, h1, ?_⟩
      rcases S.dt i s h with ⟨d, rfl⟩ | ⟨xs, c, rfl, hc, hn⟩
      · exact dv_same sm h2
      · obtain ⟨c', vs, rfl, g1, g2, g3⟩ := h2
        rw [h1] at hc
        cases hc
        exact ⟨_, vs, rfl, by rw [f1 _ hn]; exact g1, g2, dvs_same sm g3⟩
  · intro hj e1 e2
    by_cases hi : i = t
    · subst hi
      rw [S.sl] at h
      cases h
    · by_cases hjt : j = t
      · subst hjt
        rw [S.sl] at hj
        cases hj
      · exact S.un.sep i j xs ys c (by rw [slot_put, if_neg (fun z => hi z.1)]; exact h) (by rw [slot_put, if_neg (fun z => hjt z.1)]; exact hj) e1 e2
open Classical in
theorem put_put (x y : Option Sl) : ∀ (i : Nat) (δ : DEn), put x i (put y i δ) = put x i δ
  | i, [] => by cases i <;> rfl
  | 0, _ :: _ => rfl
  | i + 1, z :: δ => by
    show z :: put x i (put y i δ) = z :: put x i δ
    rw [put_put x y i δ]
theorem put_comm (x y : Option Sl) : ∀ {i j : Nat} (δ : DEn), i ≠ j → put x i (put y j δ) = put y j (put x i δ)
  | i, j, [], _ => by cases i <;> cases j <;> rfl
  | 0, 0, _ :: _, h => absurd rfl h
  | 0, j + 1, _ :: _, _ => rfl
  | i + 1, 0, _ :: _, _ => rfl
  | i + 1, j + 1, z :: δ, h => by
    show z :: put x i (put y j δ) = z :: put y j (put x i δ)
    rw [put_comm x y δ (fun e => h (by rw [e]))]
theorem Gst.set {i : Nat} {v : V} {d : PyData} (S : Gst K H₀ G t δ σ H a bs dss) (hi : i ≠ t) (h : DV K G v d) : Gst K H₀ G t (put (some (.dat d)) i δ) (σ.set i (some v)) H a bs dss := by
  refine ⟨?_, fun j s hj => ?_, ?_, ?_, S.ga, S.nd, S.ha, S.rw⟩
  · rw [put_comm _ _ δ (Ne.symm hi)]
    exact S.un.setD i h
  · rw [slot_put] at hj
    split at hj
    · cases hj
      exact .inl ⟨d, rfl⟩
    · rename_i hc
      have hji : j ≠ i := fun z => hc ⟨z, by rw [← z]; exact slot_lt hj⟩
      rcases S.dt j s hj with h | ⟨xs, c, h1, h2, h3⟩
      · exact .inl h
      · exact .inr ⟨xs, c, h1, by rw [List.getElem?_set_ne (Ne.symm hji)]; exact h2, h3⟩
  · rw [slot_put, if_neg (fun z => hi z.1.symm)]
    exact S.sl
  · rw [List.getElem?_set_ne hi]
    exact S.pl
end
structure LkG (K : PySem.W.Frag) (H₀ G : Hp) (t : Nat) (e : DEnds) (D : Ends) : Prop where
  nx : ∀ δ σ G' H, Same G G' → GSees K H₀ G' t δ σ H → e.nx δ → D.nx σ H
  rt : ∀ v s H, Same H₀ H → RetIs K H₀ H v s → e.rt s → D.rt v H
  bk : ∀ δ σ G' H, Same G G' → GSees K H₀ G' t δ σ H → e.bk δ → D.bk σ H
  ct : ∀ δ σ G' H, Same G G' → GSees K H₀ G' t δ σ H → e.ct δ → D.ct σ H
section
variable {K : PySem.W.Frag} {H₀ : Hp} {E : XK} {t : Nat} {te ta tb : TE} {da db de : DE} {dl dk : DL} {tt : TT} {dt : DT} {ts tz : TS} {ds dz : DS}
noncomputable def GrD (K : PySem.W.Frag) (H₀ : Hp) (E : XK) (te : TE) (d : DX → DEn → (List (List PyData) → Prop) → Prop) : Prop := ∀ ex δ σ G H Qd Q, ExOk H₀ E ex → Sees K H₀ G δ σ H → d ex δ Qd → (∀ a bs dss G' H', Ext G H G' H' → (∀ c ∈ a :: bs, H c = none ∧ G' c = none) → (a :: bs).Nodup → H' a = some (.lst (bs.map V.ref)) → Rws K G' H' bs dss → Qd dss → Q (.ref a) H') → te σ H Q
noncomputable def dGLC (dl : DL) (cap : List (Option Nat)) (dg : DG) (dk : DL) (ex : DX) (δ : DEn) (Q : List (List PyData) → Prop) : Prop := dl ex δ fun ds => ds.length ≤ 1000 ∧ ∃ I : Nat → List (List PyData) → Prop, I 0 [] ∧
  (∀ i d acc, ds[i]? = some d → I i acc → dg d (capD cap δ) fun δ2 => dk (fun _ => False) δ2 fun ys => I (i + 1) (acc ++ [ys])) ∧ ∀ acc, I ds.length acc → Q acc
end
section
variable {K : PySem.W.Frag} {H₀ : Hp} {E : XK} {t : Nat} {te : TE} {dl dk : DL} {g : TG} {dg : DG} {ns : List Nat} {tz : TS} {dz : DS}
theorem gr_lc {wi : TI} {cap : List (Option Nat)} (hi : IvE K H₀ E wi dl) (hg : GvD K H₀ g ns dg) (he : OvD K H₀ E te dk) (hn : (cap.filterMap id).Nodup) (hns : ns.all (fun j => (cap[j]?.bind id).isNone) = true) : GrD K H₀ E (tLC wi cap g tYes te) (dGLC dl cap dg dk) := fun ex δ σ G H Qd Q hx S q k =>
  hi ex δ σ G H _ _ hx S q fun J xs G1 H1 e1 it ⟨hlen, I, i0, step, fin⟩ => by
    intro D hD
    obtain ⟨eD, gD⟩ := ext_newL (xs := []) e1.s hD
    refine ⟨fun i m σc Hc => m = xs.length - i ∧ i ≤ xs.length ∧ CapSt cap σ σc ∧ ∃ G' acc bs, Ext G1 H1 G' Hc ∧ G' D = none ∧ Hc D = some (.lst (bs.map V.ref)) ∧ (∀ c ∈ bs, H1 c = none ∧ G' c = none) ∧ (D :: bs).Nodup ∧ Rws K G' Hc bs acc ∧ acc.length ≤ i ∧ I i acc,
      ⟨_, rfl, Nat.zero_le _, capst0, G1, [], [], eD, gD, upd_same, (fun c h => by cases h), (by simp), Rws.nil, Nat.le_refl _, i0⟩, ?_⟩
    rintro i m σc Hc ⟨rfl, hil, cs, G', acc, bs, e', gd, hd, hb, nd, hv, hal, hI⟩
    obtain ⟨t1, t2⟩ := it G' Hc e' i
    by_cases hlt : i < xs.length
    · obtain ⟨g1, g2⟩ := t1 _ (List.getElem?_eq_getElem hlt)
      refine .inr ⟨g1, fun σ2 H2 => CapSt cap σ σ2 ∧ ∃ G' acc bs, Ext G1 H1 G' H2 ∧ G' D = none ∧ H2 D = some (.lst (bs.map V.ref)) ∧ (∀ c ∈ bs, H1 c = none ∧ G' c = none) ∧ (D :: bs).Nodup ∧ Rws K G' H2 bs acc ∧ acc.length ≤ i + 1 ∧ I (i + 1) acc, fun σ2 H2 z => ⟨_, by omega, rfl, hlt, z⟩, fun x H2 y => ?_⟩
      obtain ⟨G2, e2, hx2⟩ := g2 x H2 y
      have S2 : Sees K H₀ G2 (capD cap δ) σc H2 := capSees S (e1.trans (e'.trans e2)) hn cs
      refine hg x _ _ σc G2 H2 _ _ S2 hx2 (step i _ acc (List.getElem?_eq_getElem hlt) hI) fun δ3 σ3 S3 kp q3 => ?_
      have cs3 : CapSt cap σ σ3 := ⟨kp.1.trans cs.1, fun j z hj => by
        rw [kp.2 j (fun hm => by
          have := List.all_eq_true.mp hns j hm
          rw [hj] at this
          cases this)]
        exact cs.2 j z hj⟩
      dsimp only [tYes]
      rw [if_pos rfl]
      refine he (fun _ => False) δ3 σ3 G2 H2 _ _ exok0 S3 q3 fun b vs dsr G5 H5 e5 hbn gb5 hb5 dv5 q5 => ?_
      have e25 : Ext G' Hc G5 H5 := e2.trans e5
      have gd5 : G5 D = none := e25.keep gd hd
      have hd5 : H5 D = some (.lst (bs.map V.ref)) := e25.h _ _ hd
      have e15 : Ext G1 H1 G5 H5 := e'.trans e25
      have isl : ∀ c ∈ bs, ∃ zs, Hc c = some (.lst zs) := fun c h => hv.isl h
      have bD : b ≠ D := fun z => by
        rw [z] at hbn
        rw [e2.h _ _ hd] at hbn; cases hbn
      have bB : b ∉ bs := fun z => by
        obtain ⟨zs, hz⟩ := isl b z
        rw [e2.h _ _ hz] at hbn; cases hbn
      have rw5 : Rws K G5 (upd H5 D (.lst ((bs ++ [b]).map V.ref))) (bs ++ [b]) (acc ++ [dsr]) := by
        refine Rws.ne ?_ ((hv.mono e25.g e25.h).snoc hb5 dv5)
        intro z
        rcases List.mem_append.mp z with z | z
        · exact (List.nodup_cons.mp nd).1 z
        · exact bD (List.mem_singleton.mp z).symm
      have em : bs.map V.ref ++ [V.ref b] = (bs ++ [b]).map V.ref := by rw [List.map_append]; rfl
      refine ⟨bs.map V.ref, hd5, small1000 (by rw [List.length_map, hv.len]; omega), ?_⟩
      rw [em]
      refine ⟨cs3, G5, acc ++ [dsr], bs ++ [b], ⟨e15.g, fun c o z => ?_, fun c => ?_, e15.n⟩, gd5, upd_same, fun c h => ?_, ?_, rw5, by rw [List.length_append]; simp; exact hal, q5⟩
      · rw [upd_ne (ne_of_none z hD)]; exact e15.h c o z
      · by_cases w : c = D
        · subst w; exact .inr ⟨gd5, _, upd_same⟩
        · rw [upd_ne w]; exact e15.s c
      · rcases List.mem_append.mp h with h | h
        · obtain ⟨zs, hz⟩ := isl c h
          exact ⟨(hb c h).1, e25.keep (hb c h).2 hz⟩
        · rw [List.mem_singleton.mp h]
          exact ⟨(e'.trans e2).h.free hbn, gb5⟩
      · rw [List.nodup_cons] at nd ⊢
        refine ⟨fun z => ?_, ?_⟩
        · rcases List.mem_append.mp z with z | z
          · exact nd.1 z
          · exact bD (List.mem_singleton.mp z).symm
        · rw [List.nodup_append]
          refine ⟨nd.2, by simp, fun u hu w hw => ?_⟩
          rw [List.mem_singleton.mp hw]
          exact fun z => bB (by rw [← z]; exact hu)
    · have : i = xs.length := by omega
      subst this
      exact .inl ⟨t2 (Nat.le_refl _), k D bs acc G' Hc (e1.trans e') (fun c h => by
        rcases List.mem_cons.mp h with rfl | h
        · exact ⟨e1.h.free hD, gd⟩
        · exact ⟨e1.h.free (hb c h).1, (hb c h).2⟩) nd hd hv (fin acc hI)⟩
end
section
variable {dl dk : DL} {cap : List (Option Nat)} {dg : DG} {ex : DX} {δ : DEn} {Q : List (List PyData) → Prop}
theorem glc_map {α : Type} (f : α → PyData) (F : α → List PyData) (xs : List α) (hlen : xs.length ≤ 1000) (hl : ∀ Q, Q (xs.map f) → dl ex δ Q)
    (hs : ∀ x ∈ xs, ∀ N : List PyData → Prop, N (F x) → dg (f x) (capD cap δ) fun δ2 => dk (fun _ => False) δ2 N) (hd : Q (xs.map F)) : dGLC dl cap dg dk ex δ Q :=
  hl _ ⟨by rw [List.length_map]; exact hlen, fun i acc => acc = (xs.take i).map F, rfl, fun i d acc hi hI => by
    rw [List.getElem?_map] at hi
    cases q : xs[i]? with
    | none => rw [q] at hi; cases hi
    | some x =>
      rw [q] at hi
      cases hi
      refine hs x (List.mem_of_getElem? q) _ ?_
      have e : xs.take (i + 1) = xs.take i ++ [x] := by
        rw [List.take_add_one, q]; rfl
      show acc ++ [F x] = (xs.take (i + 1)).map F
      rw [hI, e, List.map_append]; rfl, fun acc hI => by
    rw [List.length_map, List.take_of_length_le (Nat.le_refl _)] at hI
    rw [hI]
    exact hd⟩
end
section
variable {X : Cx}
end
section
variable {K : PySem.W.Frag} {H₀ : Hp} {E : XK} {te : TE} {de : DE} {dl : DL} {t : TA} {tt : TT} {dt : DT} {ts tz : TS} {ds dz : DS}
end
section
variable {K : PySem.W.Frag} {H₀ : Hp} {E : XK} {te1 te2 te3 te4 : TE} {dl d1 d2 d4 : DL} {d3 : DE}
theorem Sees.frzA {G H : Hp} {δ : DEn} {σ : L2.St} {i : Nat} {ds : List PyData} (S : Sees K H₀ G δ σ H) (h : slot δ i = some (.own ds)) : ∃ a vs, σ[i]? = some (some (.ref a)) ∧ G a = none ∧ H a = some (.lst vs) ∧ DVs K (upd G a (.lst vs)) vs ds ∧ Same G (upd G a (.lst vs)) ∧ Sees K H₀ (upd G a (.lst vs)) (put (some (.dat (.list ds))) i δ) σ H := by
  obtain ⟨a, vs, q1, q2, q3, q4⟩ := S.ownAt h
  have sg : Same G (upd G a (.lst vs)) := fun b o e => by rw [upd_ne (ne_of_none e q2)]; exact e
  refine ⟨a, vs, q1, q2, q3, dvs_same sg q4, sg, S.old.trans sg, fun b => ?_, by rw [put_len]; exact S.len, fun j u hj => ?_, fun j k xs ys c hj hk e1 e2 => ?_⟩
  · by_cases z : b = a
    · subst z
      exact .inl (by rw [upd_same, q3])
    · rw [upd_ne z]; exact S.sub b
  · rw [slot_put] at hj
    split at hj
    · rename_i hc
      cases hj
      exact ⟨_, by rw [hc.1]; exact q1, .lst (SqL.of upd_same) (dvs_same sg q4)⟩
    · rename_i hc
      have hji : j ≠ i := fun z => hc ⟨z, by rw [← z]; exact slot_lt hj⟩
      obtain ⟨v, h2, h3⟩ := S.has j u hj
      refine ⟨v, h2, ?_⟩
      cases u with
      | dat d => exact dv_same sg h3
      | two xs ys => exact h3.elim
      | fz as d => exact FzIs.same sg h3
      | exc C =>
        obtain ⟨x, rfl, hx⟩ := h3
        exact ⟨x, rfl, sg _ _ hx⟩
      | own xs =>
        obtain ⟨c, ws, rfl, p1, p2, p3⟩ := h3
        refine ⟨c, ws, rfl, ?_, p2, dvs_same sg p3⟩
        rw [upd_ne (fun z => ?_)]
        · exact p1
        · subst z
          exact hji (S.sep j i xs ds c hj h h2 q1)
  · have look : ∀ j u, slot (put (some (.dat (.list ds))) i δ) j = some (.own u) → slot δ j = some (.own u) := fun j u hj => by
      rw [slot_put] at hj
      split at hj
      · cases hj
      · exact hj
    exact S.sep j k xs ys c (look _ _ hj) (look _ _ hk) e1 e2
theorem slot_ne {δ : DEn} {i j : Nat} {x : Option Sl} (h : j ≠ i) : slot (put x i δ) j = slot δ j := by
  rw [slot_put, if_neg (fun z => h z.1)]
theorem slot_eq {δ : DEn} {i : Nat} {x : Option Sl} (h : i < δ.length) : slot (put x i δ) i = x := by
  rw [slot_put, if_pos ⟨rfl, h⟩]
noncomputable def dRows (sp f en tb st : Nat) (dl d1 d2 : DL) (d3 : DE) (d4 : DL) (e : DEnds) (δ : DEn) : Prop := slot δ tb = some (.own []) ∧ dl e.ex δ fun xs => ∃ I : Nat → DEn → Prop, I 0 δ ∧
  (∀ i d δ', xs[i]? = some d → I i δ' → d1 e.ex (put (some (.dat d)) sp δ') fun fs => d2 e.ex (put (some (.own fs)) f (put (some (.dat d)) sp δ')) fun es => ∃ rows zs, slot δ' tb = some (.own rows) ∧ slot δ' st = some (.own zs) ∧ rows.length < 1000 ∧ zs.length < 1000 ∧ en < δ'.length ∧
    d3 e.ex (put (some (.own (rows ++ [.list es]))) tb (put (some (.dat (.list es))) en (put (some (.own fs)) f (put (some (.dat d)) sp δ')))) fun ss => I (i + 1) (put (some (.own (zs ++ [ss]))) st (put (some (.own (rows ++ [.list es]))) tb (put (some (.dat (.list es))) en (put (some (.own fs)) f (put (some (.dat d)) sp δ')))))) ∧
  ∀ δ', I xs.length δ' → d4 e.ex δ' fun row => ∃ rows, slot δ' tb = some (.own rows) ∧ ∀ as, e.rt (.fz as (.tuple [.list row, .list rows]))
structure RwI (K : PySem.W.Frag) (H₀ : Hp) (tb : Nat) (δ : DEn) (σ : L2.St) (G H : Hp) (a : Addr) (cs : List Addr) (dss : List (List PyData)) : Prop where
  sl : slot δ tb = some (.own (dss.map PyData.list))
  rw : Rws K G G cs dss
  pl : σ[tb]? = some (some (.ref a))
  ha : H a = some (.lst (cs.map V.ref))
  nd : cs.Nodup
  fr : ∀ c ∈ cs, H₀ c = none ∧ ∃ zs, G c = some (.lst zs)
theorem RwI.ext {tb : Nat} {δ : DEn} {σ : L2.St} {G H G' H' : Hp} {a : Addr} {cs : List Addr} {dss : List (List PyData)} (R : RwI K H₀ tb δ σ G H a cs dss) (g : Same G G') (h : Same H H') : RwI K H₀ tb δ σ G' H' a cs dss :=
  ⟨R.sl, R.rw.mono g g, R.pl, h _ _ R.ha, R.nd, fun c hc => ⟨(R.fr c hc).1, by obtain ⟨zs, z⟩ := (R.fr c hc).2; exact ⟨zs, g _ _ z⟩⟩⟩
theorem RwI.put {tb i : Nat} {δ : DEn} {σ : L2.St} {G H : Hp} {a : Addr} {cs : List Addr} {dss : List (List PyData)} {x : Option Sl} {y : Option V} (R : RwI K H₀ tb δ σ G H a cs dss) (h : tb ≠ i) : RwI K H₀ tb (put x i δ) (σ.set i y) G H a cs dss :=
  ⟨by rw [slot_ne h]; exact R.sl, R.rw, by rw [List.getElem?_set_ne (Ne.symm h)]; exact R.pl, R.ha, R.nd, R.fr⟩
theorem sv_rows {wi : TI} (sp f en tb st : Nat) (h5 : tb ≠ sp ∧ tb ≠ f ∧ tb ≠ en ∧ st ≠ sp ∧ st ≠ f ∧ st ≠ en ∧ st ≠ tb ∧ en ≠ tb) (hi : IvS K H₀ E wi dl) (h1 : OvD K H₀ E te1 d1) (h2 : OvD K H₀ E te2 d2) (h3 : EvD K H₀ E te3 d3) (h4 : OvD K H₀ E te4 d4) :
    SvD K H₀ E (tSeq (tFor wi (gName sp) (tSeq (tAsg te1 (gName f)) (tSeq (tAsg te2 (gName en)) (tSeq (tDrop (tBM K "list" rAppend (tVar tb) (tCons (tVar en) tNil))) (tDrop (tBM K "list" rAppend (tVar st) (tCons te3 tNil))))))) (tRet (tTup (tCons te4 (tCons (tVar tb) tNil))))) (dRows sp f en tb st dl d1 d2 d3 d4) := fun δ σ G H e D hx S q L => by
  obtain ⟨n1, n2, n3, n4, n5, n6, n7, n8⟩ := h5
  obtain ⟨q0, q⟩ := q
  refine hi e.ex δ σ G H _ _ hx S q fun J xs G1 H1 e1 it ⟨I, i0, step, fin⟩ => ?_
  have S1 := S.ext e1
  obtain ⟨a0, vs0, p1, p2, p3, p4⟩ := S1.ownAt q0
  cases p4
  refine ⟨fun i m σ H => m = xs.length - i ∧ i ≤ xs.length ∧ ∃ δ' G' a cs dss, Same G1 G' ∧ Sees K H₀ G' δ' σ H ∧ I i δ' ∧ RwI K H₀ tb δ' σ G' H a cs dss, ⟨_, rfl, Nat.zero_le _, δ, G1, a0, [], [], Same.refl _, S1, i0, ⟨q0, .nil, p1, p3, List.nodup_nil, fun c h => by cases h⟩⟩, ?_⟩
  rintro i m σ' H' ⟨rfl, hil, δ', G', a, cs, dss, sg, S', hI, R⟩
  obtain ⟨t1, t2⟩ := it G' H' sg S'.sub i
  by_cases hlt : i < xs.length
  · obtain ⟨g1, g2⟩ := t1 _ (List.getElem?_eq_getElem hlt)
    refine .inr ⟨g1, fun σ H => ∃ δ' G' a cs dss, Same G1 G' ∧ Sees K H₀ G' δ' σ H ∧ I (i + 1) δ' ∧ RwI K H₀ tb δ' σ G' H a cs dss, fun σ2 H2 z => ⟨_, by omega, rfl, hlt, z⟩, fun x H2 y => ?_⟩
    obtain ⟨G2, e2, hd⟩ := g2 x H2 y
    have S2 := (S'.ext e2).setD sp hd
    have R2 := (R.ext e2.g e2.h).put (x := some (.dat xs[i])) (y := some x) n1
    refine h1 e.ex _ _ G2 H2 _ _ hx S2 (step i _ δ' (List.getElem?_eq_getElem hlt) hI) fun b1 vs1 fs G3 H3 e3 b1n b1g b1h b1d q1 => ?_
    have S3 := S2.setO e3 f b1n b1g b1h b1d
    have R3 := (R2.ext e3.g e3.h).put (x := some (.own fs)) (y := some (.ref b1)) n2
    refine h2 e.ex _ _ G3 H3 _ _ hx S3 q1 fun c vs2 es G4 H4 e4 cn cg ch cd q2 => ?_
    obtain ⟨rows, zs, hr, hz, r1000, z1000, enl, q3⟩ := q2
    have S4 := S3.setO e4 en cn cg ch cd
    have R4 := (R3.ext e4.g e4.h).put (x := some (.own es)) (y := some (.ref c)) n3
    have lenE : en < (put (some (.own fs)) f (put (some (.dat xs[i])) sp δ')).length := by rw [put_len, put_len]; exact enl
    obtain ⟨c', vs2', k1, k2, k3, k4, k5, S5⟩ := S4.frzA (slot_eq lenE)
    have ec : c' = c := by
      rw [List.getElem?_set_self (Nat.lt_of_lt_of_le lenE S3.len)] at k1
      cases k1; rfl
    subst ec
    rw [put_put] at S5
    have erows : rows = dss.map PyData.list := by
      rw [R.sl] at hr
      cases hr; rfl
    subst erows
    have R5 : RwI K H₀ tb (put (some (.dat (.list es))) en (put (some (.own fs)) f (put (some (.dat xs[i])) sp δ'))) (((σ'.set sp (some x)).set f (some (.ref b1))).set en (some (.ref c'))) (upd G4 c' (.lst vs2')) H4 a cs dss := by
      have := (R3.ext e4.g e4.h).put (x := some (.dat (.list es))) (y := some (.ref c')) n3
      exact this.ext k5 (Same.refl _)
    refine ⟨_, R5.pl, .inl ⟨rfl, _, SqL.of R5.ha⟩, _, List.getElem?_set_self (Nat.lt_of_lt_of_le lenE S3.len), a, _, _, rfl, rfl, R5.ha, small1000 (by rw [List.length_map, R5.rw.len]; rw [List.length_map] at r1000; omega), ?_⟩
    have cnew : c' ∉ cs := fun z => by
      obtain ⟨zs, hz⟩ := (R4.fr c' z).2
      rw [k2] at hz; cases hz
    have c0 : H₀ c' = none := S3.oldH.free cn
    have RW : Rws K (upd G4 c' (.lst vs2')) (upd G4 c' (.lst vs2')) (cs ++ [c']) (dss ++ [es]) := R5.rw.snoc upd_same k4
    have dvr : DVs K (upd G4 c' (.lst vs2')) ((cs ++ [c']).map V.ref) ((dss ++ [es]).map PyData.list) := RW.dv _ (Same.refl _) fun _ _ => rfl
    have em : cs.map V.ref ++ [V.ref c'] = (cs ++ [c']).map V.ref := by rw [List.map_append]; rfl
    have em2 : dss.map PyData.list ++ [PyData.list es] = (dss ++ [es]).map PyData.list := by rw [List.map_append]; rfl
    rw [em]
    rw [em2] at q3
    have S6 := S5.updO R5.sl R5.pl dvr
    have tbl : tb < (put (some (.dat (.list es))) en (put (some (.own fs)) f (put (some (.dat xs[i])) sp δ'))).length := slot_lt R5.sl
    have R6 : RwI K H₀ tb (put (some (.own ((dss ++ [es]).map PyData.list))) tb (put (some (.dat (.list es))) en (put (some (.own fs)) f (put (some (.dat xs[i])) sp δ')))) (((σ'.set sp (some x)).set f (some (.ref b1))).set en (some (.ref c'))) (upd G4 c' (.lst vs2')) (upd H4 a (.lst ((cs ++ [c']).map V.ref))) a (cs ++ [c']) (dss ++ [es]) := by
      refine ⟨slot_eq tbl, RW, R5.pl, upd_same, ?_, fun d hd => ?_⟩
      · rw [List.nodup_append]
        refine ⟨R5.nd, by simp, fun u hu w hw => ?_⟩
        rw [List.mem_singleton.mp hw]
        exact fun z => cnew (by rw [← z]; exact hu)
      · rcases List.mem_append.mp hd with z | z
        · exact R5.fr d z
        · rw [List.mem_singleton.mp z]
          exact ⟨c0, _, upd_same⟩
    have hz2 : slot (put (some (.own ((dss ++ [es]).map PyData.list))) tb (put (some (.dat (.list es))) en (put (some (.own fs)) f (put (some (.dat xs[i])) sp δ')))) st = some (.own zs) := by
      rw [slot_ne n7, slot_ne n6, slot_ne n5, slot_ne n4]; exact hz
    obtain ⟨z0, zv, zh1, zh2, zh3, zh4⟩ := S6.ownAt hz2
    refine ⟨_, zh1, .inl ⟨rfl, _, SqL.of zh3⟩, h3 e.ex _ _ _ _ _ _ hx S6 q3 fun w ss G7 H7 e7 hw q7 => ?_⟩
    refine ⟨z0, zv, w, rfl, rfl, e7.h _ _ zh3, small1000 (by rw [zh4.len]; omega), _, G7, a, cs ++ [c'], dss ++ [es], ?_, (S6.ext e7).updO hz2 zh1 ((dvs_same e7.g zh4).append (.cons hw .nil)), q7, ?_⟩
    · exact sg.trans (e2.g.trans (e3.g.trans (e4.g.trans (k5.trans e7.g))))
    · have R7 := R6.ext e7.g e7.h
      have az : a ≠ z0 := fun z => by
        have := S6.sep tb st _ _ a R6.sl hz2 R6.pl (by rw [z]; exact zh1)
        exact n7 this.symm
      exact ⟨by rw [slot_ne (Ne.symm n7)]; exact R7.sl, R7.rw, R7.pl, by rw [upd_ne az]; exact R7.ha, R7.nd, R7.fr⟩
  · have : i = xs.length := by omega
    subst this
    refine .inl ⟨t2 (Nat.le_refl _), ?_⟩
    refine h4 e.ex δ' σ' G' H' _ _ hx S' (fin δ' hI) fun p vs row G8 H8 e8 pn pg ph pd q8 => ?_
    obtain ⟨rows, hr, q9⟩ := q8
    have erows : rows = dss.map PyData.list := by
      rw [R.sl] at hr
      cases hr; rfl
    subst erows
    have R8 := R.ext e8.g e8.h
    have S8 := S'.ext e8
    refine ⟨_, R8.pl, Nat.le_of_lt (small1000 (by simp)), fun t ht => ?_⟩
    obtain ⟨b, bv, b1, b2, b3, b4⟩ := S8.ownAt R8.sl
    have ab : b = a := by
      have := R8.pl
      rw [b1] at this
      cases this; rfl
    subst ab
    have up : Same H8 (upd H8 t (.tup [.ref p, .ref b])) := fun c o z => by rw [upd_ne (ne_of_none z ht)]; exact z
    have u8 : Same G8 (upd H8 t (.tup [.ref p, .ref b])) := S8.sub.same.trans up
    refine L.rt (.ref t) (.fz (p :: p :: b :: cs) (.tuple [.list row, .list (dss.map PyData.list)])) _ (S8.oldH.trans up) ⟨fun c hc => ?_, by simp, ?_⟩ (q9 _)
    · have p0 : H₀ p = none := S'.oldH.free pn
      rcases List.mem_cons.mp hc with rfl | hc
      · exact p0
      · rcases List.mem_cons.mp hc with rfl | hc
        · exact p0
        · rcases List.mem_cons.mp hc with rfl | hc
          · exact S8.old.free b2
          · exact (R8.fr c hc).1
    · refine FzIs.tg (SqT.of upd_same) ?_ (up _ _ ph) (dvs_same u8 pd) (up _ _ R8.ha) (R8.rw.mono u8 u8)
      have pb : p ≠ b := fun z => by
        have := R.ha
        rw [z] at pn
        rw [pn] at this; cases this
      have pc : p ∉ cs := fun z => by
        obtain ⟨zs, hz⟩ := (R.fr p z).2
        have := S'.sub.same _ _ hz
        rw [pn] at this; cases this
      have bc : b ∉ cs := fun z => by
        obtain ⟨zs, hz⟩ := (R8.fr b z).2
        rw [b2] at hz; cases hz
      rw [List.nodup_cons, List.nodup_cons]
      refine ⟨fun z => ?_, bc, R8.nd⟩
      rcases List.mem_cons.mp z with z | z
      · exact pb z
      · exact pc z
end
section
variable {K : PySem.W.Frag} {H₀ : Hp} {E : XK} {t : TA} {teA teB teC teD teX : TE} {dl dA : DL} {dB dC : DX → DEn → (List (List PyData) → Prop) → Prop} {dD dX : DE} {tz : TS} {dz : DS} {w : DW}
noncomputable def dCallFz (w : DW) (dl : DL) (f : Nat) (dz : List Addr → DS) (e : DEnds) (δ : DEn) : Prop := noOwn δ = true ∧ dl e.ex δ fun ds => w ds (fzS fun as d => 3 ≤ as.length → (∀ j m d', slot δ j = some (.fz [m] d') → m ∉ as) → dz as e (put (some (.fz as d)) f δ)) fun _ => False
theorem sv_callFz (f : Nat) {dz : List Addr → DS} (ha : AvD K H₀ E t dl) (hz : ∀ as, (∀ c ∈ as, H₀ c = none) → SvD K H₀ E tz (dz as)) : SvD K H₀ E (tSeq (tAsg (tCall (spW K w) [] E0 t) (gName f)) tz) (dCallFz w dl f dz) := fun δ σ G H e D hx S q L =>
  ha e.ex δ σ G H _ _ hx S q.2 fun vs0 as0 G1 H1 e1 h1 q1 => by
    refine ⟨as0, _, fun _ => False, by rw [List.append_nil]; exact h1, q1, fun v s H2 sm r qs => ?_, fun C H2 sm hc => hc.elim⟩
    cases s with
    | fz as d =>
      obtain ⟨fr, l3, hf⟩ := r
      have S0 := S.ext e1
      have S2 := (S0.all2 q.1 sm).setS f (s := .fz as d) hf fun _ _ _ _ z => nomatch z
      refine hz as (fun c hc => S0.oldH.free (fr c hc)) _ _ H2 H2 e D hx S2 (qs l3 fun j m d' hj hm => ?_) (L.mono ((e1.g.trans S0.sub.same).trans sm))
      obtain ⟨v', _, w2⟩ := S0.has j _ hj
      cases w2 with
      | one g1 _ =>
        have := S0.sub.same _ _ g1
        rw [fr m hm] at this
        cases this
    | dat d => exact qs.elim
    | own ds => exact qs.elim
    | exc C => exact qs.elim
    | two xs ys => exact qs.elim
noncomputable def rwA : List Addr → List Addr
  | p :: _ => [p]
  | [] => []
noncomputable def tbA : List Addr → List Addr
  | _ :: _ :: a :: cs => a :: a :: cs
  | _ => []
noncomputable def dUnpG (f n p : Nat) (e : DEnds) (δ : DEn) : Prop := match slot δ f with
  | some (.fz as (.tuple [.list xs, .list ys])) => 3 ≤ as.length ∧ e.nx (put (some (.fz (tbA as) (.list ys))) p (put (some (.fz (rwA as) (.list xs))) n δ))
  | _ => False
theorem sv_unpG (f n p : Nat) : SvD K H₀ E (tAsg (tVar f) (gTup K 2 (gCons (gName n) (gCons (gName p) gNil)))) (dUnpG f n p) := fun δ σ G H e D hx S q L => by
  unfold dUnpG at q
  split at q
  · rename_i as xs ys hs
    obtain ⟨l3, q⟩ := q
    obtain ⟨v, h1, h2⟩ := S.has f _ hs
    cases h2 with
    | pair hT hab ga gb dx dy => simp at l3
    | tg hT nd gp dx ga rw =>
      refine ⟨_, h1, _, _, rfl, sqT_same S.sub.same hT, rfl, _, _, rfl, _, _, rfl, rfl, L.nx _ _ G H (Same.refl _) ?_ q⟩
      exact ((S.setS n (s := .fz [_] (.list xs)) (FzIs.one gp dx) fun _ _ _ _ z => nomatch z).setS p (s := .fz (_ :: _ :: _) _) (FzIs.gr ga (List.nodup_cons.mp nd).2 rw) fun _ _ _ _ z => nomatch z)
  · exact q.elim
noncomputable def dFrzK (i : Nat) (ds : DS) (e : DEnds) (δ : DEn) : Prop := match slot δ i with
  | some (.own xs) => ∀ m, ds e (put (some (.fz [m] (.list xs))) i δ)
  | _ => False
theorem sv_frzK {ts : TS} {ds : DS} (i : Nat) (h : SvD K H₀ E ts ds) : SvD K H₀ E ts (dFrzK i ds) := fun δ σ G H e D hx S q L => by
  unfold dFrzK at q
  split at q
  · rename_i xs hs
    obtain ⟨m, G', hm, s, S'⟩ := S.frzL hs
    exact h _ σ G' H e D hx S' (q m) (L.mono s)
  · exact q.elim
noncomputable def okF (as : List Addr) : DEn → Prop
  | [] => True
  | none :: r => okF as r
  | some (.dat d) :: r => flatD d = true ∧ okF as r
  | some (.fz [m] (.list ds)) :: r => m ∉ as ∧ flatDs ds = true ∧ okF as r
  | _ :: _ => False
theorem okF_at {as : List Addr} : ∀ {δ : DEn} {i : Nat} {s : Sl}, okF as δ → slot δ i = some s → (∃ d, s = .dat d ∧ flatD d = true) ∨ ∃ m ds, s = .fz [m] (.list ds) ∧ m ∉ as ∧ flatDs ds = true
  | [], _, _, _, e => by cases e
  | none :: r, 0, _, _, e => by cases e
  | none :: r, i + 1, s, h, e => okF_at (δ := r) (i := i) h e
  | some (.dat d) :: r, 0, _, h, e => by cases e; exact .inl ⟨d, rfl, h.1⟩
  | some (.dat d) :: r, i + 1, s, h, e => okF_at (δ := r) (i := i) h.2 e
  | some (.fz [m] (.list ds)) :: r, 0, _, h, e => by cases e; exact .inr ⟨m, ds, rfl, h.1, h.2.1⟩
  | some (.fz [m] (.list ds)) :: r, i + 1, s, h, e => okF_at (δ := r) (i := i) h.2.2 e
theorem Rws.flat {G H G' : Hp} (s : ∀ b o, G b = some o → (∀ xs, o ≠ .lst xs) → G' b = some o) : ∀ {bs : List Addr} {dss : List (List PyData)}, (∀ d ∈ dss, flatDs d = true) → Rws K G H bs dss → Rws K G' H bs dss
  | _, _, _, .nil => .nil
  | _, _, f, .cons h1 h2 r => .cons h1 (dvs_flat s h2 (f _ List.mem_cons_self)) (r.flat s fun d hd => f d (List.mem_cons_of_mem _ hd))
theorem Rws.hsame {G H H' : Hp} : ∀ {bs : List Addr} {dss : List (List PyData)}, (∀ c ∈ bs, ∀ o, H c = some o → H' c = some o) → Rws K G H bs dss → Rws K G H' bs dss
  | _, _, _, .nil => .nil
  | _, _, f, .cons h1 h2 r => .cons (f _ List.mem_cons_self _ h1) h2 (r.hsame fun c hc => f c (List.mem_cons_of_mem _ hc))
noncomputable def dFin (as : List Addr) (f r tb tl kp fi : Nat) (bs : List Bool) (dA : DL) (dB dC : DX → DEn → (List (List PyData) → Prop) → Prop) (dD dX : DE) (dz : DS) (e : DEnds) (δ : DEn) : Prop :=
  ∃ (xs : List PyData) (dss : List (List PyData)) (d0 : PyData), slot δ f = some (.fz as d0) ∧ slot δ r = some (.fz (rwA as) (.list xs)) ∧ slot δ tb = some (.fz (tbA as) (.list (dss.map PyData.list))) ∧ (∃ y z, d0 = .tuple [y, z]) ∧ 3 ≤ as.length ∧ xs.length < 1000 ∧ (∀ d ∈ dss, flatDs d = true) ∧ okF as (mask bs δ) ∧ tl < (mask bs δ).length ∧ slot (mask bs δ) kp = none ∧ slot (mask bs δ) fi = none ∧ kp < δ.length ∧ fi < δ.length ∧
  dA e.ex δ fun us => flatDs us = true ∧ dB e.ex δ fun uss => (∀ d ∈ uss, flatDs d = true) ∧ dC e.ex (put none tl δ) fun kss => (∀ d ∈ kss, flatDs d = true) ∧ dD e.ex (put none kp (put none tl δ)) fun d => ∃ (i : Int) (j : Nat) (row krow : List PyData), d = .int i ∧ ixN dss.length i = some j ∧ dss[j]? = some row ∧ kss[j]? = some krow ∧ kss.length = dss.length ∧ row.length < 1000 ∧ krow.length < 1000 ∧
  dX e.ex [] fun x1 => flatD x1 = true ∧ dX e.ex [] fun x2 => flatD x2 = true ∧ dX e.ex [] fun x3 => flatD x3 = true ∧ oNeD (.list ((dss.set j (row ++ [x1])).map PyData.list)) (.list ((kss.set j (krow ++ [x3])).map PyData.list)) fun b => ∃ k, b = .bool k ∧ if k = true then e.rt (.dat (.bool false)) else
    dz { e with nx := fun _ => False, ct := fun _ => False, bk := fun _ => False } (put (some (.dat (.tuple [.list us, .list (uss.map PyData.list)]))) tl (mask bs δ))
theorem map_list_inj : ∀ {a b : List (List PyData)}, a.map PyData.list = b.map PyData.list → a = b
  | [], [], _ => rfl
  | [], _ :: _, h => by cases h
  | _ :: _, [], h => by cases h
  | x :: a, y :: b, h => by
    rw [List.map_cons, List.map_cons] at h
    injection h with h1 h2
    injection h1 with h1
    rw [h1, map_list_inj h2]
theorem Sees.nil {G H : Hp} {δ : DEn} {σ σ' : L2.St} (S : Sees K H₀ G δ σ H) : Sees K H₀ G [] σ' H := ⟨S.old, S.sub, Nat.zero_le _, (fun i s h => by cases h), (fun i j xs ys a h => by cases h)⟩
theorem at_ref {cs : List Addr} {i : Int} {j n : Nat} {c : Addr} (hl : cs.length = n) (hj : ixN n i = some j) (hc : cs[j]? = some c) : atI (cs.map V.ref) i = some (V.ref c) := by
  unfold atI
  rw [List.length_map, hl, hj]
  show (cs.map V.ref)[j]? = _
  rw [List.getElem?_map, hc]
  rfl
open Classical in
theorem sv_fin {as : List Addr} (as0 : ∀ c ∈ as, H₀ c = none) (f r tb tl kp fi : Nat) (bs : List Bool) (hn : r ≠ tl ∧ r ≠ kp ∧ r ≠ fi ∧ tb ≠ tl ∧ tb ≠ kp ∧ tb ≠ fi ∧ kp ≠ tl ∧ kp ≠ fi ∧ tl ≠ fi) (hA : OvD K H₀ E teA dA) (hB : GrD K H₀ E teB dB) (hC : GrD K H₀ E teC dC) (hD : EvD K H₀ E teD dD) (hX : EvD K H₀ E teX dX) (hz : SvD K H₀ E tz dz) :
    SvD K H₀ E (tSeq (tAsg (tTup (tCons teA (tCons teB tNil))) (gName tl)) (tSeq (tAsg teC (gName kp)) (tSeq (tAsg teD (gName fi)) (tSeq (tDrop (tBM K "list" rAppend (tOp (rIxL K) (tVar tb) (tVar fi)) (tCons teX tNil))) (tSeq (tDrop (tBM K "list" rAppend (tVar r) (tCons teX tNil))) (tSeq (tDrop (tBM K "list" rAppend (tOp (rIxL K) (tVar kp) (tVar fi)) (tCons teX tNil)))
      (tSeq (tIfS (tTest (tOp (rEqD K true) (tVar tb) (tVar kp))) (tRet (tC (.bl false))) tNext) (tSeq (tDrop (tBM0 K "list" rPop (tVar tb))) tz)))))))) (dFin as f r tb tl kp fi bs dA dB dC dD dX dz) := fun δ σ G H e D hx S q L => by
  obtain ⟨n1, n2, n3, n4, n5, n6, n7, n8, n9⟩ := hn
  obtain ⟨xs, dss, d0, hf, hr, htb, ⟨y0, z0, rfl⟩, l3, x1000, fdss, ok, tll, mk, mf, lkp0, lfi0, qA⟩ := q
  obtain ⟨vf, _, wf⟩ := S.has f _ hf
  obtain ⟨vr, sr, wr⟩ := S.has r _ hr
  obtain ⟨vt, st, wt⟩ := S.has tb _ htb
  obtain ⟨p, a, cs, rfl, ndp⟩ : ∃ p a cs, as = p :: p :: a :: cs ∧ (p :: a :: cs).Nodup := by
    cases wf with
    | pair _ _ _ _ _ _ => simp at l3
    | tg _ nd _ _ _ _ => exact ⟨_, _, _, rfl, nd⟩
  obtain ⟨vs, rfl, gp, dx⟩ : ∃ vs, vr = .ref p ∧ G p = some (.lst vs) ∧ DVs K G vs xs := by
    change FzIs K G vr [p] (.list xs) at wr
    cases wr with
    | one g1 g2 => exact ⟨_, rfl, g1, g2⟩
  obtain ⟨rfl, ga, rwt⟩ : vt = .ref a ∧ G a = some (.lst (cs.map V.ref)) ∧ Rws K G G cs dss := by
    change FzIs K G vt (a :: a :: cs) (.list (dss.map PyData.list)) at wt
    obtain ⟨Ls, hL⟩ : ∃ Ls, dss.map PyData.list = Ls := ⟨_, rfl⟩
    rw [hL] at wt
    cases wt with
    | gr h1 h2 h3 =>
      have := map_list_inj hL
      subst this
      exact ⟨rfl, h1, h3⟩
  have npa : p ≠ a := fun z => (List.nodup_cons.mp ndp).1 (by rw [z]; exact List.mem_cons_self)
  have npc : p ∉ cs := fun z => (List.nodup_cons.mp ndp).1 (List.mem_cons_of_mem _ z)
  have nac : a ∉ cs := (List.nodup_cons.mp (List.nodup_cons.mp ndp).2).1
  have ndc : cs.Nodup := (List.nodup_cons.mp (List.nodup_cons.mp ndp).2).2
  have inG : ∀ z ∈ p :: a :: cs, ∃ o, G z = some o := fun z hz => by
    rcases List.mem_cons.mp hz with rfl | hz
    · exact ⟨_, gp⟩
    · rcases List.mem_cons.mp hz with rfl | hz
      · exact ⟨_, ga⟩
      · obtain ⟨ys, hy⟩ := rwt.isl hz
        exact ⟨_, hy⟩
  refine hA e.ex δ σ G H _ _ hx S qA fun u vu us G1 H1 e1 un ug uh ud qB => ?_
  obtain ⟨fus, qB⟩ := qB
  have S1 := S.ext e1
  refine hB e.ex δ σ G1 H1 _ _ hx S1 qB fun b bs2 uss G2 H2 e2 bfr bnd bh brw qC => ?_
  obtain ⟨fuss, qC⟩ := qC
  have S2 := S1.ext e2
  refine ⟨Nat.le_of_lt (small1000 (by simp)), fun t ht => ?_⟩
  have e3 := ext_new (xs := [.ref u, .ref b]) e2.s ht
  have S3 := (S2.ext e3).unsetV tl (some (.ref t))
  refine hC e.ex _ _ _ _ _ _ hx S3 qC fun k ks kss G4 H4 e4 kfr knd kh krw qD => ?_
  obtain ⟨fkss, qD⟩ := qD
  have S4 := (S3.ext e4).unsetV kp (some (.ref k))
  refine hD e.ex _ _ _ _ _ _ hx S4 qD fun v d G5 H5 e5 hv q5 => ?_
  obtain ⟨i, j, row, krow, rfl, hj, hrow, hkrow, hkl, r1000, k1000, qX1⟩ := q5
  cases dv_int hv
  have S5 := S4.ext e5
  have gAll : Same G G5 := e1.g.trans (e2.g.trans (e3.g.trans (e4.g.trans e5.g)))
  have hAll : Same H H5 := e1.h.trans (e2.h.trans (e3.h.trans (e4.h.trans e5.h)))
  have gH5 : ∀ z o, G z = some o → H5 z = some o := fun z o h => hAll _ _ (S.sub.same _ _ h)
  have gH3 : ∀ z o, G z = some o → upd H2 t (.tup [.ref u, .ref b]) z = some o := fun z o h => e3.h _ _ (e2.h _ _ (e1.h _ _ (S.sub.same _ _ h)))
  obtain ⟨σ3, hσ⟩ : ∃ σ3, ((σ.set tl (some (.ref t))).set kp (some (.ref k))).set fi (some (.int i)) = σ3 := ⟨_, rfl⟩
  show tSeq _ _ D (((σ.set tl (some (.ref t))).set kp (some (.ref k))).set fi (some (.int i))) H5
  rw [hσ]
  have oth : ∀ z, z ≠ tl → z ≠ kp → z ≠ fi → σ3[z]? = σ[z]? := fun z h1 h2 h3 => by
    rw [← hσ, List.getElem?_set_ne (Ne.symm h3), List.getElem?_set_ne (Ne.symm h2), List.getElem?_set_ne (Ne.symm h1)]
  have ltl : tl < σ.length := Nat.lt_of_lt_of_le (Nat.lt_of_lt_of_le tll (mask_len bs δ)) S.len
  have lkp : kp < σ.length := Nat.lt_of_lt_of_le lkp0 S.len
  have lfi : fi < σ.length := Nat.lt_of_lt_of_le lfi0 S.len
  have s_tb : σ3[tb]? = some (some (.ref a)) := by rw [oth tb n4 n5 n6]; exact st
  have s_r : σ3[r]? = some (some (.ref p)) := by rw [oth r n1 n2 n3]; exact sr
  have s_kp : σ3[kp]? = some (some (.ref k)) := by
    rw [← hσ, List.getElem?_set_ne (Ne.symm n8)]
    exact List.getElem?_set_self (by rw [List.length_set]; exact lkp)
  have s_fi : σ3[fi]? = some (some (.int i)) := by
    rw [← hσ]
    exact List.getElem?_set_self (by rw [List.length_set, List.length_set]; exact lfi)
  have s_tl : σ3[tl]? = some (some (.ref t)) := by
    rw [← hσ, List.getElem?_set_ne (Ne.symm n9), List.getElem?_set_ne n7]
    exact List.getElem?_set_self ltl
  obtain ⟨c, vrow, hc, hcG, dvrow⟩ := rwt.at hrow
  obtain ⟨d, vk, hdk, hdH, dvk⟩ := krw.at hkrow
  have cm : c ∈ cs := List.mem_of_getElem? hc
  have dm : d ∈ ks := List.mem_of_getElem? hdk
  have ncp : c ≠ p := fun z => npc (by rw [← z]; exact cm)
  have nca : c ≠ a := fun z => nac (by rw [← z]; exact cm)
  have nk : ∀ z ∈ k :: ks, z ∉ p :: a :: cs := fun z hz hz2 => by
    obtain ⟨o, ho⟩ := inG z hz2
    have := gH3 z o ho
    rw [(kfr z hz).1] at this
    cases this
  have ndp' : d ≠ p := fun z => nk d (List.mem_cons_of_mem _ dm) (by rw [z]; exact List.mem_cons_self)
  have nda : d ≠ a := fun z => nk d (List.mem_cons_of_mem _ dm) (by rw [z]; exact List.mem_cons_of_mem _ List.mem_cons_self)
  have ndc' : d ∉ cs := fun z => nk d (List.mem_cons_of_mem _ dm) (List.mem_cons_of_mem _ (List.mem_cons_of_mem _ z))
  have nkp : k ≠ p := fun z => nk k List.mem_cons_self (by rw [z]; exact List.mem_cons_self)
  have nka : k ≠ a := fun z => nk k List.mem_cons_self (by rw [z]; exact List.mem_cons_of_mem _ List.mem_cons_self)
  have nkc : k ≠ c := fun z => nk k List.mem_cons_self (by rw [z]; exact List.mem_cons_of_mem _ (List.mem_cons_of_mem _ cm))
  have nkd : k ≠ d := fun z => (List.nodup_cons.mp knd).1 (by rw [z]; exact dm)
  have h5a := gH5 _ _ ga
  have h5c := gH5 _ _ hcG
  have h5p := gH5 _ _ gp
  have h5k : H5 k = some (.lst (ks.map V.ref)) := e5.h _ _ kh
  have h5d : H5 d = some (.lst vk) := e5.h _ _ hdH
  refine ⟨_, s_tb, _, s_fi, a, cs.map V.ref, i, .ref c, rfl, rfl, SqL.of h5a, at_ref rwt.len hj hc, .inl ⟨rfl, _, SqL.of h5c⟩, ?_⟩
  refine hX e.ex [] σ3 G5 H5 _ _ hx S5.nil qX1 fun y1 x1 G6 H6 e6 hy1 q6 => ?_
  obtain ⟨fx1, qX2⟩ := q6
  refine ⟨c, vrow, y1, rfl, rfl, e6.h _ _ h5c, small1000 (by rw [dvrow.len]; omega), ?_⟩
  obtain ⟨H7, h7⟩ : ∃ H7 : Hp, upd H6 c (.lst (vrow ++ [y1])) = H7 := ⟨_, rfl⟩
  show tSeq _ _ D σ3 (upd H6 c (.lst (vrow ++ [y1])))
  rw [h7]
  have H7c : H7 c = some (.lst (vrow ++ [y1])) := by rw [← h7, upd_same]
  have H7n : ∀ z, z ≠ c → H7 z = H6 z := fun z hz => by rw [← h7, upd_ne hz]
  obtain ⟨GT, hGT⟩ : ∃ GT : Hp, ∀ z, GT z = if z ∈ p :: a :: cs then none else G6 z := ⟨fun z => if z ∈ p :: a :: cs then none else G6 z, fun z => rfl⟩
  have gtI : ∀ z ∈ p :: a :: cs, GT z = none := fun z hz => by rw [hGT, if_pos hz]
  have gtO : ∀ z, z ∉ p :: a :: cs → GT z = G6 z := fun z hz => by rw [hGT, if_neg hz]
  have isl6 : ∀ z ∈ p :: a :: cs, ∃ ys, H6 z = some (.lst ys) := fun z hz => by
    rcases List.mem_cons.mp hz with rfl | hz
    · exact ⟨_, e6.h _ _ h5p⟩
    · rcases List.mem_cons.mp hz with rfl | hz
      · exact ⟨_, e6.h _ _ h5a⟩
      · obtain ⟨ys, hy⟩ := rwt.isl hz
        exact ⟨_, e6.h _ _ (gH5 _ _ hy)⟩
  have isl7 : ∀ z ∈ p :: a :: cs, ∃ ys, H7 z = some (.lst ys) := fun z hz => by
    by_cases hzc : z = c
    · exact ⟨_, by rw [hzc]; exact H7c⟩
    · rw [H7n z hzc]; exact isl6 z hz
  have cin : c ∈ p :: a :: cs := List.mem_cons_of_mem _ (List.mem_cons_of_mem _ cm)
  have S7 : Sees K H₀ GT [] σ3 H7 := by
    refine ⟨fun z o h => ?_, fun z => ?_, Nat.zero_le _, (fun i s h => by cases h), (fun i j xs ys a h => by cases h)⟩
    · have hz : z ∉ p :: a :: cs := fun hz => by
        have := as0 z (List.mem_cons_of_mem _ hz)
        rw [this] at h; cases h
      rw [gtO z hz]
      exact e6.g _ _ (S5.old _ _ h)
    · by_cases hz : z ∈ p :: a :: cs
      · obtain ⟨ys, hy⟩ := isl7 z hz
        exact .inr ⟨gtI z hz, ys, hy⟩
      · rw [gtO z hz, H7n z fun w => hz (by rw [w]; exact cin)]
        exact e6.s z
  have fl : ∀ z o, G6 z = some o → (∀ ys, o ≠ .lst ys) → GT z = some o := fun z o h nl => by
    rw [gtO z fun hz => ?_]
    · exact h
    · obtain ⟨ys, hy⟩ := isl6 z hz
      have := e6.s.same _ _ h
      rw [hy] at this
      cases this
      exact nl _ rfl
  have h7p : H7 p = some (.lst vs) := by rw [H7n p (Ne.symm ncp)]; exact e6.h _ _ h5p
  refine ⟨_, s_r, .inl ⟨rfl, _, SqL.of h7p⟩, hX e.ex [] σ3 GT H7 _ _ hx S7 qX2 fun y2 x2 G8 H8 e8 hy2 q8 => ?_⟩
  obtain ⟨fx2, qX3⟩ := q8
  refine ⟨p, vs, y2, rfl, rfl, e8.h _ _ h7p, small1000 (by rw [dx.len]; omega), ?_⟩
  obtain ⟨H9, h9⟩ : ∃ H9 : Hp, upd H8 p (.lst (vs ++ [y2])) = H9 := ⟨_, rfl⟩
  show tSeq _ _ D σ3 (upd H8 p (.lst (vs ++ [y2])))
  rw [h9]
  have H9p : H9 p = some (.lst (vs ++ [y2])) := by rw [← h9, upd_same]
  have H9n : ∀ z, z ≠ p → H9 z = H8 z := fun z hz => by rw [← h9, upd_ne hz]
  have g8I : ∀ z ∈ p :: a :: cs, G8 z = none := fun z hz => by
    obtain ⟨ys, hy⟩ := isl7 z hz
    exact e8.keep (gtI z hz) hy
  have S9 : Sees K H₀ G8 [] σ3 H9 := by
    refine ⟨S7.old.trans e8.g, fun z => ?_, Nat.zero_le _, (fun i s h => by cases h), (fun i j xs ys a h => by cases h)⟩
    by_cases hz : z = p
    · rw [hz]; exact .inr ⟨g8I p List.mem_cons_self, _, H9p⟩
    · rw [H9n z hz]; exact e8.s z
  have up5 : ∀ z o, z ≠ c → z ≠ p → H5 z = some o → H9 z = some o := fun z o h1 h2 h => by
    rw [H9n z h2]
    refine e8.h _ _ ?_
    rw [H7n z h1]
    exact e6.h _ _ h
  have ndc2 : d ≠ c := fun z => ndc' (by rw [z]; exact cm)
  have h9k := up5 k _ nkc nkp h5k
  have h9d := up5 d _ ndc2 ndp' h5d
  refine ⟨_, s_kp, _, s_fi, k, ks.map V.ref, i, .ref d, rfl, rfl, SqL.of h9k, at_ref (by rw [krw.len]; exact hkl) hj hdk, .inl ⟨rfl, _, SqL.of h9d⟩, ?_⟩
  refine hX e.ex [] σ3 G8 H9 _ _ hx S9 qX3 fun y3 x3 G10 H10 e10 hy3 q10 => ?_
  obtain ⟨fx3, qE⟩ := q10
  refine ⟨d, vk, y3, rfl, rfl, e10.h _ _ h9d, small1000 (by rw [dvk.len]; omega), ?_⟩
  obtain ⟨H11, h11⟩ : ∃ H11 : Hp, upd H10 d (.lst (vk ++ [y3])) = H11 := ⟨_, rfl⟩
  show tSeq _ _ D σ3 (upd H10 d (.lst (vk ++ [y3])))
  rw [h11]
  have H11d : H11 d = some (.lst (vk ++ [y3])) := by rw [← h11, upd_same]
  have H11n : ∀ z, z ≠ d → H11 z = H10 z := fun z hz => by rw [← h11, upd_ne hz]
  have g5k : ∀ z ∈ k :: ks, G5 z = none := fun z hz => by
    have h4 : ∃ o, H4 z = some o := by
      rcases List.mem_cons.mp hz with rfl | hz
      · exact ⟨_, kh⟩
      · obtain ⟨ys, hy⟩ := krw.isl hz
        exact ⟨_, hy⟩
    obtain ⟨o, ho⟩ := h4
    exact e5.keep (kfr z hz).2 ho
  have g8d : G8 d = none := by
    have hd : d ∈ k :: ks := List.mem_cons_of_mem _ dm
    have h6 : G6 d = none := e6.keep (g5k d hd) h5d
    have hT : GT d = none := by rw [gtO d (nk d hd)]; exact h6
    exact e8.keep hT (by rw [H7n d ndc2]; exact e6.h _ _ h5d)
  have g10d : G10 d = none := e10.keep g8d h9d
  have g10I : ∀ z ∈ p :: a :: cs, G10 z = none := fun z hz => by
    have h : ∃ o, H9 z = some o := by
      by_cases hzp : z = p
      · exact ⟨_, by rw [hzp]; exact H9p⟩
      · obtain ⟨ys, hy⟩ := isl7 z hz
        exact ⟨_, by rw [H9n z hzp]; exact e8.h _ _ hy⟩
    obtain ⟨o, ho⟩ := h
    exact e10.keep (g8I z hz) ho
  have sub11 : Sub G10 H11 := fun z => by
    by_cases hz : z = d
    · rw [hz]; exact .inr ⟨g10d, _, H11d⟩
    · rw [H11n z hz]; exact e10.s z
  have old11 : Same H₀ G10 := S9.old.trans e10.g
  have fl10 : ∀ z o, G6 z = some o → (∀ ys, o ≠ .lst ys) → G10 z = some o := fun z o h nl => e10.g _ _ (e8.g _ _ (fl z o h nl))
  have fl5 : ∀ z o, G5 z = some o → (∀ ys, o ≠ .lst ys) → G10 z = some o := fun z o h nl => fl10 z o (e6.g _ _ h) nl
  have up9 : ∀ z o, z ≠ d → H9 z = some o → H11 z = some o := fun z o h1 h => by
    rw [H11n z h1]
    exact e10.h _ _ h
  have h11a : H11 a = some (.lst (cs.map V.ref)) := up9 a _ (Ne.symm nda) (up5 a _ (Ne.symm nca) (Ne.symm npa) h5a)
  have h11k : H11 k = some (.lst (ks.map V.ref)) := up9 k _ nkd h9k
  have RT : Rws K G10 H11 cs (dss.set j (row ++ [x1])) := by
    have a1 : Rws K G10 H6 cs dss := (Rws.flat (fun z o h nl => fl5 z o (gAll _ _ h) nl) fdss rwt).hsame fun z _ o h => e6.h _ _ (gH5 _ _ h)
    have dv1 : DVs K G10 (vrow ++ [y1]) (row ++ [x1]) := (dvs_flat (fun z o h nl => fl5 z o (gAll _ _ h) nl) dvrow (fdss row (List.mem_of_getElem? hrow))).append (.cons (dv_flat fl10 hy1 fx1) .nil)
    have a2 := Rws.set dv1 ndc hc a1
    rw [h7] at a2
    have a3 : Rws K G10 H9 cs (dss.set j (row ++ [x1])) := a2.hsame fun z hz o h => by
      rw [H9n z fun w => npc (by rw [← w]; exact hz)]
      exact e8.h _ _ h
    exact a3.hsame fun z hz o h => up9 z o (fun w => ndc' (by rw [← w]; exact hz)) h
  have RK : Rws K G10 H11 ks (kss.set j (krow ++ [x3])) := by
    have fl4 : ∀ z o, G4 z = some o → (∀ ys, o ≠ .lst ys) → G10 z = some o := fun z o h nl => fl5 z o (e5.g _ _ h) nl
    have fl8 : ∀ z o, G8 z = some o → (∀ ys, o ≠ .lst ys) → G10 z = some o := fun z o h nl => e10.g _ _ h
    have a1 : Rws K G10 H10 ks kss := (Rws.flat fl4 fkss krw).hsame fun z hz o h => by
      refine e10.h _ _ (up5 z o (fun w => ?_) (fun w => ?_) (e5.h _ _ h))
      · exact nk z (List.mem_cons_of_mem _ hz) (by rw [w]; exact cin)
      · exact nk z (List.mem_cons_of_mem _ hz) (by rw [w]; exact List.mem_cons_self)
    have dv1 : DVs K G10 (vk ++ [y3]) (krow ++ [x3]) := (dvs_flat fl4 dvk (fkss krow (List.mem_of_getElem? hkrow))).append (.cons hy3 .nil)
    have a2 := Rws.set dv1 (List.nodup_cons.mp knd).2 hdk a1
    rw [h11] at a2
    exact a2
  have DT : DV K H11 (.ref a) (.list ((dss.set j (row ++ [x1])).map PyData.list)) := .lst (SqL.of h11a) (RT.dv H11 sub11.same fun _ _ => rfl)
  have DK : DV K H11 (.ref k) (.list ((kss.set j (krow ++ [x3])).map PyData.list)) := .lst (SqL.of h11k) (RK.dv H11 sub11.same fun _ _ => rfl)
  obtain ⟨α, en, va, vb, eq1, eq2, qk⟩ := qE
  rw [eq1] at DT
  rw [eq2] at DK
  refine ⟨_, s_tb, _, s_kp, α, en, va, vb, DT, DK, fun kk hkk => ⟨_, rfl, ?_⟩⟩
  obtain ⟨k', ek, q12⟩ := qk kk hkk
  cases ek
  cases kk with
  | false =>
    rw [if_pos (show (!false) = true from rfl)] at q12
    show D.rt (.bl false) H11
    exact L.rt (.bl false) (.dat (.bool false)) H11 (old11.trans sub11.same) (.bl false) q12
  | true =>
    rw [if_neg (show ¬ (!true) = true by decide)] at q12
    have jl : j < cs.length := (List.getElem?_eq_some_iff.mp hc).1
    show tDrop (tBM0 K "list" rPop (tVar tb)) { D with nx := tz D } σ3 H11
    refine ⟨_, s_tb, .inl ⟨rfl, _, SqL.of h11a⟩, a, cs.map V.ref, _, rfl, rfl, h11a, List.getElem?_eq_getElem (by rw [List.length_map]; omega), ?_⟩
    obtain ⟨H12, h12⟩ : ∃ H12 : Hp, upd H11 a (.lst (cs.map V.ref).dropLast) = H12 := ⟨_, rfl⟩
    show tz D σ3 (upd H11 a (.lst (cs.map V.ref).dropLast))
    rw [h12]
    have H12a : H12 a = some (.lst (cs.map V.ref).dropLast) := by rw [← h12, upd_same]
    have H12n : ∀ z, z ≠ a → H12 z = H11 z := fun z hz => by rw [← h12, upd_ne hz]
    have toldH : ∀ z ∈ u :: b :: bs2, H z = none := fun z hz => by
      rcases List.mem_cons.mp hz with rfl | hz
      · exact un
      · exact e1.h.free (bfr z hz).1
    have told2 : ∀ z ∈ u :: b :: bs2, ∃ ys, H2 z = some (.lst ys) := fun z hz => by
      rcases List.mem_cons.mp hz with rfl | hz
      · exact ⟨_, e2.h _ _ uh⟩
      · rcases List.mem_cons.mp hz with rfl | hz
        · exact ⟨_, bh⟩
        · exact brw.isl hz
    have toldO : ∀ z ∈ u :: b :: bs2, z ∉ p :: a :: cs := fun z hz hz2 => by
      obtain ⟨o, ho⟩ := inG z hz2
      have := S.sub.same _ _ ho
      rw [toldH z hz] at this
      cases this
    have toldD : ∀ z ∈ u :: b :: bs2, z ≠ d := fun z hz w => by
      obtain ⟨ys, hy⟩ := told2 z hz
      have := e3.h _ _ hy
      rw [w, (kfr d (List.mem_cons_of_mem _ dm)).1] at this
      cases this
    have upT : ∀ z ∈ u :: b :: bs2, ∀ o, H2 z = some o → H12 z = some o := fun z hz o h => by
      rw [H12n z fun w => toldO z hz (by rw [w]; exact List.mem_cons_of_mem _ List.mem_cons_self)]
      refine up9 z o (toldD z hz) (up5 z o (fun w => toldO z hz (by rw [w]; exact cin)) (fun w => toldO z hz (by rw [w]; exact List.mem_cons_self)) ?_)
      exact e5.h _ _ (e4.h _ _ (e3.h _ _ h))
    obtain ⟨GZ, hGZ⟩ : ∃ GZ : Hp, ∀ z, GZ z = if z ∈ u :: b :: bs2 then H12 z else G10 z := ⟨fun z => if z ∈ u :: b :: bs2 then H12 z else G10 z, fun z => rfl⟩
    have gzI : ∀ z ∈ u :: b :: bs2, GZ z = H12 z := fun z hz => by rw [hGZ, if_pos hz]
    have gzO : ∀ z, z ∉ u :: b :: bs2 → GZ z = G10 z := fun z hz => by rw [hGZ, if_neg hz]
    have sz : Same G10 GZ := fun z o h => by
      by_cases hz : z ∈ u :: b :: bs2
      · rw [gzI z hz, H12n z fun w => toldO z hz (by rw [w]; exact List.mem_cons_of_mem _ List.mem_cons_self)]
        exact sub11.same _ _ h
      · rw [gzO z hz]; exact h
    have flZ : ∀ z o, G5 z = some o → (∀ ys, o ≠ .lst ys) → GZ z = some o := fun z o h nl => sz _ _ (fl5 z o h nl)
    have gzt : GZ t = some (.tup [.ref u, .ref b]) := flZ _ _ (e5.g _ _ (e4.g _ _ upd_same)) (by intro ys z; cases z)
    have gzu : GZ u = some (.lst vu) := by rw [gzI u List.mem_cons_self]; exact upT u List.mem_cons_self _ (e2.h _ _ uh)
    have bin : b ∈ u :: b :: bs2 := List.mem_cons_of_mem _ List.mem_cons_self
    have gzb : GZ b = some (.lst (bs2.map V.ref)) := by rw [gzI b bin]; exact upT b bin _ bh
    have fl2 : ∀ z o, G2 z = some o → (∀ ys, o ≠ .lst ys) → GZ z = some o := fun z o h nl => flZ z o (e5.g _ _ (e4.g _ _ (e3.g _ _ h))) nl
    have RU : Rws K GZ H12 bs2 uss := (Rws.flat fl2 fuss brw).hsame fun z hz o h => upT z (List.mem_cons_of_mem _ (List.mem_cons_of_mem _ hz)) o h
    have DTold : DV K GZ (.ref t) (.tuple [.list us, .list (uss.map PyData.list)]) := .tup (SqT.of gzt) (.cons (.lst (SqL.of gzu) (dvs_flat (fun z o h nl => fl2 z o (e2.g _ _ h) nl) ud fus)) (.cons (.lst (SqL.of gzb) (RU.dv GZ (Same.refl _) fun z hz => gzI z (List.mem_cons_of_mem _ (List.mem_cons_of_mem _ hz)))) .nil))
    have SZ : Sees K H₀ GZ (put (some (.dat (.tuple [.list us, .list (uss.map PyData.list)]))) tl (mask bs δ)) σ3 H12 := by
      refine ⟨old11.trans sz, fun z => ?_, ?_, fun i2 s2 hi2 => ?_, fun i2 j2 xs2 ys2 c2 hi2 => ?_⟩
      · by_cases hz : z ∈ u :: b :: bs2
        · exact .inl (gzI z hz)
        · rw [gzO z hz]
          by_cases hza : z = a
          · rw [hza]
            exact .inr ⟨g10I a (List.mem_cons_of_mem _ List.mem_cons_self), _, H12a⟩
          · rw [H12n z hza]; exact sub11 z
      · rw [put_len, ← hσ, List.length_set, List.length_set, List.length_set]
        exact Nat.le_trans (mask_len bs δ) S.len
      · rw [slot_put] at hi2
        split at hi2
        · rename_i hc2
          cases hi2
          rw [hc2.1]
          exact ⟨_, s_tl, DTold⟩
        · rename_i hc2
          have hit : i2 ≠ tl := fun z => hc2 ⟨z, tll⟩
          have hik : i2 ≠ kp := fun z => by rw [z, mk] at hi2; cases hi2
          have hif : i2 ≠ fi := fun z => by rw [z, mf] at hi2; cases hi2
          obtain ⟨v2, w1, w2⟩ := S.has i2 s2 (mask_slot hi2)
          refine ⟨v2, by rw [oth i2 hit hik hif]; exact w1, ?_⟩
          rcases okF_at ok hi2 with ⟨d2, rfl, fd⟩ | ⟨m, ds2, rfl, nm, fd⟩
          · exact dv_flat (fun z o h nl => flZ z o (gAll _ _ h) nl) w2 fd
          · cases w2 with
            | one g1 g2 =>
              refine FzIs.one ?_ (dvs_flat (fun z o h nl => flZ z o (gAll _ _ h) nl) g2 fd)
              have nm2 : m ∉ p :: a :: cs := fun z => nm (List.mem_cons_of_mem _ z)
              refine sz _ _ (e10.g _ _ (e8.g _ _ ?_))
              rw [gtO m nm2]
              exact e6.g _ _ (gAll _ _ g1)
      · rw [slot_put] at hi2
        split at hi2
        · cases hi2
        · rcases okF_at ok hi2 with ⟨d2, z, _⟩ | ⟨m, ds2, z, _⟩ <;> cases z
    exact hz _ _ GZ H12 { e with nx := fun _ => False, ct := fun _ => False, bk := fun _ => False } D hx SZ q12 ⟨fun _ _ _ _ _ _ z => z.elim, L.rt, fun _ _ _ _ _ _ z => z.elim, fun _ _ _ _ _ _ z => z.elim⟩
end
end Dl
namespace My
open PySem PySem.Spec PyProof.Rows L2 Lx Dl
noncomputable def top (i : Nat) : Stmt := PySem.Challenge.pw_leastmiss_k64_least_rows_walked.main.body.getD i (.Pass ⟨0, 0, 0, 0⟩)
noncomputable abbrev s_common_divisor : Stmt := top 6
theorem sc_common_divisor : FnScope ["one", "other", "rest"] ["one", "other"] (defScope s_common_divisor) := ⟨rfl, rfl, rfl, by decide +kernel, rfl, by decide +kernel, by decide +kernel⟩
noncomputable abbrev s_fraction : Stmt := top 7
theorem sc_fraction : FnScope ["top", "bottom", "divisor"] ["top", "bottom"] (defScope s_fraction) := ⟨rfl, rfl, rfl, by decide +kernel, rfl, by decide +kernel, by decide +kernel⟩
noncomputable abbrev s_plus : Stmt := top 8
theorem sc_plus : FnScope ["one", "other", "shared", "rest", "top", "divisor"] ["one", "other"] (defScope s_plus) := ⟨rfl, rfl, rfl, by decide +kernel, rfl, by decide +kernel, by decide +kernel⟩
noncomputable abbrev s_minus : Stmt := top 9
theorem sc_minus : FnScope ["one", "other"] ["one", "other"] (defScope s_minus) := ⟨rfl, rfl, rfl, by decide +kernel, rfl, by decide +kernel, by decide +kernel⟩
noncomputable abbrev s_product : Stmt := top 10
theorem sc_product : FnScope ["one", "other", "left", "right"] ["one", "other"] (defScope s_product) := ⟨rfl, rfl, rfl, by decide +kernel, rfl, by decide +kernel, by decide +kernel⟩
noncomputable abbrev s_quotient : Stmt := top 11
theorem sc_quotient : FnScope ["one", "other"] ["one", "other"] (defScope s_quotient) := ⟨rfl, rfl, rfl, by decide +kernel, rfl, by decide +kernel, by decide +kernel⟩
noncomputable abbrev s_is_less : Stmt := top 12
theorem sc_is_less : FnScope ["one", "other"] ["one", "other"] (defScope s_is_less) := ⟨rfl, rfl, rfl, by decide +kernel, rfl, by decide +kernel, by decide +kernel⟩
noncomputable abbrev s_size_of : Stmt := top 13
theorem sc_size_of : FnScope ["one"] ["one"] (defScope s_size_of) := ⟨rfl, rfl, rfl, by decide +kernel, rfl, by decide +kernel, by decide +kernel⟩
noncomputable abbrev s_total_of : Stmt := top 14
theorem sc_total_of : FnScope ["some", "total", "one"] ["some"] (defScope s_total_of) := ⟨rfl, rfl, rfl, by decide +kernel, rfl, by decide +kernel, by decide +kernel⟩
noncomputable abbrev s_greatest_of : Stmt := top 15
theorem sc_greatest_of : FnScope ["some", "greatest", "one"] ["some"] (defScope s_greatest_of) := ⟨rfl, rfl, rfl, by decide +kernel, rfl, by decide +kernel, by decide +kernel⟩
noncomputable abbrev s_least_of : Stmt := top 16
theorem sc_least_of : FnScope ["some", "least", "one"] ["some"] (defScope s_least_of) := ⟨rfl, rfl, rfl, by decide +kernel, rfl, by decide +kernel, by decide +kernel⟩
noncomputable abbrev s_misses_of : Stmt := top 18
theorem sc_misses_of : FnScope ["marks", "row"] ["marks", "row"] (defScope s_misses_of) := ⟨rfl, rfl, rfl, by decide +kernel, rfl, by decide +kernel, by decide +kernel⟩
noncomputable abbrev s_check_kind : Stmt := top 21
theorem sc_check_kind : FnScope ["kind"] ["kind"] (defScope s_check_kind) := ⟨rfl, rfl, rfl, by decide +kernel, rfl, by decide +kernel, by decide +kernel⟩
noncomputable abbrev s_weighed_misses : Stmt := top 22
theorem sc_weighed_misses : FnScope ["marks", "row"] ["marks", "row"] (defScope s_weighed_misses) := ⟨rfl, rfl, rfl, by decide +kernel, rfl, by decide +kernel, by decide +kernel⟩
noncomputable abbrev s_measured : Stmt := top 23
theorem sc_measured : FnScope ["kind", "marks", "row", "misses", "weighed"] ["kind", "marks", "row"] (defScope s_measured) := ⟨rfl, rfl, rfl, by decide +kernel, rfl, by decide +kernel, by decide +kernel⟩
noncomputable abbrev s_least_level : Stmt := top 25
theorem sc_least_level : FnScope ["kind", "marks", "heights", "weights", "weighed"] ["kind", "marks"] (defScope s_least_level) := ⟨rfl, rfl, rfl, by decide +kernel, rfl, by decide +kernel, by decide +kernel⟩
noncomputable abbrev s_middle_of : Stmt := top 26
theorem sc_middle_of : FnScope ["some", "weights", "pairs", "whole", "spot", "reached"] ["some", "weights"] (defScope s_middle_of) := ⟨rfl, rfl, rfl, by decide +kernel, rfl, by decide +kernel, by decide +kernel⟩
noncomputable abbrev s_in_order : Stmt := top 27
theorem sc_in_order : FnScope ["some", "weights", "pairs", "one", "weight", "spot"] ["some", "weights"] (defScope s_in_order) := ⟨rfl, rfl, rfl, by decide +kernel, rfl, by decide +kernel, by decide +kernel⟩
noncomputable abbrev s_stretch_cost : Stmt := top 29
theorem sc_stretch_cost : FnScope ["kind", "marks", "first", "last", "stretch"] ["kind", "marks", "first", "last"] (defScope s_stretch_cost) := ⟨rfl, rfl, rfl, by decide +kernel, rfl, by decide +kernel, by decide +kernel⟩
noncomputable abbrev s_joined : Stmt := top 30
theorem sc_joined : FnScope ["kind", "one", "other"] ["kind", "one", "other"] (defScope s_joined) := ⟨rfl, rfl, rfl, by decide +kernel, rfl, by decide +kernel, by decide +kernel⟩
noncomputable abbrev s_costs_to : Stmt := top 33
theorem sc_costs_to : FnScope ["kind", "marks", "last"] ["kind", "marks", "last"] (defScope s_costs_to) := ⟨rfl, rfl, rfl, by decide +kernel, rfl, by decide +kernel, by decide +kernel⟩
noncomputable abbrev s_all_costs : Stmt := top 34
theorem sc_all_costs : FnScope ["kind", "marks"] ["kind", "marks"] (defScope s_all_costs) := ⟨rfl, rfl, rfl, by decide +kernel, rfl, by decide +kernel, by decide +kernel⟩
noncomputable abbrev s_is_above : Stmt := top 35
theorem sc_is_above : FnScope ["kind", "entry", "one", "other"] ["kind", "entry", "one", "other"] (defScope s_is_above) := ⟨rfl, rfl, rfl, by decide +kernel, rfl, by decide +kernel, by decide +kernel⟩
noncomputable abbrev s_step_least : Stmt := top 36
theorem sc_step_least : FnScope ["kind", "marks", "k", "costs", "table", "starts", "entries", "spot", "found"] ["kind", "marks", "k"] (defScope s_step_least) := ⟨rfl, rfl, rfl, by decide +kernel, rfl, by decide +kernel, by decide +kernel⟩
noncomputable abbrev s_best_entry : Stmt := top 37
theorem sc_best_entry : FnScope ["kind", "costs", "entries_ahead", "best", "start", "spot", "one"] ["kind", "costs", "entries_ahead"] (defScope s_best_entry) := ⟨rfl, rfl, rfl, by decide +kernel, rfl, by decide +kernel, by decide +kernel⟩
noncomputable abbrev s_laid_row : Stmt := top 38
theorem sc_laid_row : FnScope ["kind", "marks", "starts", "row", "count", "spot", "first", "stretch"] ["kind", "marks", "starts"] (defScope s_laid_row) := ⟨rfl, rfl, rfl, by decide +kernel, rfl, by decide +kernel, by decide +kernel⟩
noncomputable abbrev s_law_cell : Stmt := top 40
theorem sc_law_cell : FnScope ["script", "k"] ["script", "k"] (defScope s_law_cell) := ⟨rfl, rfl, rfl, by decide +kernel, rfl, by decide +kernel, by decide +kernel⟩
noncomputable abbrev s_law_lowest : Stmt := top 41
theorem sc_law_lowest : FnScope ["top", "bottom", "one", "other"] ["top", "bottom"] (defScope s_law_lowest) := ⟨rfl, rfl, rfl, by decide +kernel, rfl, by decide +kernel, by decide +kernel⟩
noncomputable abbrev s_law_whole : Stmt := top 42
theorem sc_law_whole : FnScope ["thing"] ["thing"] (defScope s_law_whole) := ⟨rfl, rfl, rfl, by decide +kernel, rfl, by decide +kernel, by decide +kernel⟩
noncomputable abbrev s_law_fraction : Stmt := top 43
theorem sc_law_fraction : FnScope ["found"] ["found"] (defScope s_law_fraction) := ⟨rfl, rfl, rfl, by decide +kernel, rfl, by decide +kernel, by decide +kernel⟩
noncomputable abbrev s_law_heights : Stmt := top 44
theorem sc_law_heights : FnScope ["script", "many", "heights", "k", "cell"] ["script", "many"] (defScope s_law_heights) := ⟨rfl, rfl, rfl, by decide +kernel, rfl, by decide +kernel, by decide +kernel⟩
noncomputable abbrev s_law_weights : Stmt := top 45
theorem sc_law_weights : FnScope ["script", "many", "weights", "k", "cell"] ["script", "many"] (defScope s_law_weights) := ⟨rfl, rfl, rfl, by decide +kernel, rfl, by decide +kernel, by decide +kernel⟩
noncomputable abbrev s_law_bottom : Stmt := top 46
theorem sc_law_bottom : FnScope ["script"] ["script"] (defScope s_law_bottom) := ⟨rfl, rfl, rfl, by decide +kernel, rfl, by decide +kernel, by decide +kernel⟩
noncomputable abbrev s_law_marks : Stmt := top 47
theorem sc_law_marks : FnScope ["script", "heights", "weights", "bottom", "place", "found", "k", "spot"] ["script", "heights", "weights", "bottom"] (defScope s_law_marks) := ⟨rfl, rfl, rfl, by decide +kernel, rfl, by decide +kernel, by decide +kernel⟩
noncomputable abbrev s_law_cost : Stmt := top 48
theorem sc_law_cost : FnScope ["kind", "heights", "weights", "bottom", "some", "total", "first"] ["kind", "heights", "weights", "bottom"] (defScope s_law_cost) := ⟨rfl, rfl, rfl, by decide +kernel, rfl, by decide +kernel, by decide +kernel⟩
noncomputable abbrev s_law_less : Stmt := top 49
theorem sc_law_less : FnScope ["one", "other"] ["one", "other"] (defScope s_law_less) := ⟨rfl, rfl, rfl, by decide +kernel, rfl, by decide +kernel, by decide +kernel⟩
noncomputable abbrev s_law_joined : Stmt := top 50
theorem sc_law_joined : FnScope ["kind", "one", "other"] ["kind", "one", "other"] (defScope s_law_joined) := ⟨rfl, rfl, rfl, by decide +kernel, rfl, by decide +kernel, by decide +kernel⟩
noncomputable abbrev s_law_missed : Stmt := top 51
theorem sc_law_missed : FnScope ["kind", "some", "row", "total", "mark", "height", "top", "bottom"] ["kind", "some", "row"] (defScope s_law_missed) := ⟨rfl, rfl, rfl, by decide +kernel, rfl, by decide +kernel, by decide +kernel⟩
noncomputable abbrev s_law_row : Stmt := top 52
theorem sc_law_row : FnScope ["found", "many", "entry"] ["found", "many"] (defScope s_law_row) := ⟨rfl, rfl, rfl, by decide +kernel, rfl, by decide +kernel, by decide +kernel⟩
noncomputable abbrev s_law_steps : Stmt := top 53
theorem sc_law_steps : FnScope ["row", "total", "k"] ["row"] (defScope s_law_steps) := ⟨rfl, rfl, rfl, by decide +kernel, rfl, by decide +kernel, by decide +kernel⟩
noncomputable abbrev s_law_is_low : Stmt := top 54
theorem sc_law_is_low : FnScope ["kind", "costs", "table", "ahead", "entries", "i", "bounds", "bound"] ["kind", "costs", "table"] (defScope s_law_is_low) := ⟨rfl, rfl, rfl, by decide +kernel, rfl, by decide +kernel, by decide +kernel⟩
noncomputable abbrev s_law_many_steps : Stmt := top 55
theorem sc_law_many_steps : FnScope ["script", "many"] ["script", "many"] (defScope s_law_many_steps) := ⟨rfl, rfl, rfl, by decide +kernel, rfl, by decide +kernel, by decide +kernel⟩
noncomputable abbrev s_law : Stmt := top 56
theorem sc_law : FnScope ["script", "many", "heights", "weights", "bottom", "some", "kind", "k", "handed", "found", "row", "table", "entries", "costs", "i", "told", "kept", "first"] ["script"] (defScope s_law) := ⟨rfl, rfl, rfl, by decide +kernel, rfl, by decide +kernel, by decide +kernel⟩
structure Adr where
  a_common_divisor : Addr
  d_common_divisor : FuncData
  a_fraction : Addr
  d_fraction : FuncData
  a_plus : Addr
  d_plus : FuncData
  a_minus : Addr
  d_minus : FuncData
  a_product : Addr
  d_product : FuncData
  a_quotient : Addr
  d_quotient : FuncData
  a_is_less : Addr
  d_is_less : FuncData
  a_size_of : Addr
  d_size_of : FuncData
  a_total_of : Addr
  d_total_of : FuncData
  a_greatest_of : Addr
  d_greatest_of : FuncData
  a_least_of : Addr
  d_least_of : FuncData
  a_misses_of : Addr
  d_misses_of : FuncData
  a_check_kind : Addr
  d_check_kind : FuncData
  a_weighed_misses : Addr
  d_weighed_misses : FuncData
  a_measured : Addr
  d_measured : FuncData
  a_least_level : Addr
  d_least_level : FuncData
  a_middle_of : Addr
  d_middle_of : FuncData
  a_in_order : Addr
  d_in_order : FuncData
  a_stretch_cost : Addr
  d_stretch_cost : FuncData
  a_joined : Addr
  d_joined : FuncData
  a_costs_to : Addr
  d_costs_to : FuncData
  a_all_costs : Addr
  d_all_costs : FuncData
  a_is_above : Addr
  d_is_above : FuncData
  a_step_least : Addr
  d_step_least : FuncData
  a_best_entry : Addr
  d_best_entry : FuncData
  a_laid_row : Addr
  d_laid_row : FuncData
  a_law_cell : Addr
  d_law_cell : FuncData
  a_law_lowest : Addr
  d_law_lowest : FuncData
  a_law_whole : Addr
  d_law_whole : FuncData
  a_law_fraction : Addr
  d_law_fraction : FuncData
  a_law_heights : Addr
  d_law_heights : FuncData
  a_law_weights : Addr
  d_law_weights : FuncData
  a_law_bottom : Addr
  d_law_bottom : FuncData
  a_law_marks : Addr
  d_law_marks : FuncData
  a_law_cost : Addr
  d_law_cost : FuncData
  a_law_less : Addr
  d_law_less : FuncData
  a_law_joined : Addr
  d_law_joined : FuncData
  a_law_missed : Addr
  d_law_missed : FuncData
  a_law_row : Addr
  d_law_row : FuncData
  a_law_steps : Addr
  d_law_steps : FuncData
  a_law_is_low : Addr
  d_law_is_low : FuncData
  a_law_many_steps : Addr
  d_law_many_steps : FuncData
  a_law : Addr
  d_law : FuncData
  x_NoNumber : Addr
  x_NoKind : Addr
  g_KINDS : Addr
  g_NOUGHT : Addr
structure Txt (K : PySem.W.Frag) (mg : Str → Option Value) (A : Adr) : Prop where
  F_common_divisor : Fun K "common_divisor" "common_divisor" s_common_divisor A.a_common_divisor A.d_common_divisor
  m_common_divisor : mg "common_divisor" = some (.ref A.a_common_divisor)
  b_common_divisor : Binds K A.d_common_divisor ["one", "other"] []
  F_fraction : Fun K "fraction" "fraction" s_fraction A.a_fraction A.d_fraction
  m_fraction : mg "fraction" = some (.ref A.a_fraction)
  b_fraction : Binds K A.d_fraction ["top", "bottom"] []
  F_plus : Fun K "plus" "plus" s_plus A.a_plus A.d_plus
  m_plus : mg "plus" = some (.ref A.a_plus)
  b_plus : Binds K A.d_plus ["one", "other"] []
  F_minus : Fun K "minus" "minus" s_minus A.a_minus A.d_minus
  m_minus : mg "minus" = some (.ref A.a_minus)
  b_minus : Binds K A.d_minus ["one", "other"] []
  F_product : Fun K "product" "product" s_product A.a_product A.d_product
  m_product : mg "product" = some (.ref A.a_product)
  b_product : Binds K A.d_product ["one", "other"] []
  F_quotient : Fun K "quotient" "quotient" s_quotient A.a_quotient A.d_quotient
  m_quotient : mg "quotient" = some (.ref A.a_quotient)
  b_quotient : Binds K A.d_quotient ["one", "other"] []
  F_is_less : Fun K "is_less" "is_less" s_is_less A.a_is_less A.d_is_less
  m_is_less : mg "is_less" = some (.ref A.a_is_less)
  b_is_less : Binds K A.d_is_less ["one", "other"] []
  F_size_of : Fun K "size_of" "size_of" s_size_of A.a_size_of A.d_size_of
  m_size_of : mg "size_of" = some (.ref A.a_size_of)
  b_size_of : Binds K A.d_size_of ["one"] []
  F_total_of : Fun K "total_of" "total_of" s_total_of A.a_total_of A.d_total_of
  m_total_of : mg "total_of" = some (.ref A.a_total_of)
  b_total_of : Binds K A.d_total_of ["some"] []
  F_greatest_of : Fun K "greatest_of" "greatest_of" s_greatest_of A.a_greatest_of A.d_greatest_of
  m_greatest_of : mg "greatest_of" = some (.ref A.a_greatest_of)
  b_greatest_of : Binds K A.d_greatest_of ["some"] []
  F_least_of : Fun K "least_of" "least_of" s_least_of A.a_least_of A.d_least_of
  m_least_of : mg "least_of" = some (.ref A.a_least_of)
  b_least_of : Binds K A.d_least_of ["some"] []
  F_misses_of : Fun K "misses_of" "misses_of" s_misses_of A.a_misses_of A.d_misses_of
  m_misses_of : mg "misses_of" = some (.ref A.a_misses_of)
  b_misses_of : Binds K A.d_misses_of ["marks", "row"] []
  F_check_kind : Fun K "check_kind" "check_kind" s_check_kind A.a_check_kind A.d_check_kind
  m_check_kind : mg "check_kind" = some (.ref A.a_check_kind)
  b_check_kind : Binds K A.d_check_kind ["kind"] []
  F_weighed_misses : Fun K "weighed_misses" "weighed_misses" s_weighed_misses A.a_weighed_misses A.d_weighed_misses
  m_weighed_misses : mg "weighed_misses" = some (.ref A.a_weighed_misses)
  b_weighed_misses : Binds K A.d_weighed_misses ["marks", "row"] []
  F_measured : Fun K "measured" "measured" s_measured A.a_measured A.d_measured
  m_measured : mg "measured" = some (.ref A.a_measured)
  b_measured : Binds K A.d_measured ["kind", "marks", "row"] []
  F_least_level : Fun K "least_level" "least_level" s_least_level A.a_least_level A.d_least_level
  m_least_level : mg "least_level" = some (.ref A.a_least_level)
  b_least_level : Binds K A.d_least_level ["kind", "marks"] []
  F_middle_of : Fun K "middle_of" "middle_of" s_middle_of A.a_middle_of A.d_middle_of
  m_middle_of : mg "middle_of" = some (.ref A.a_middle_of)
  b_middle_of : Binds K A.d_middle_of ["some", "weights"] []
  F_in_order : Fun K "in_order" "in_order" s_in_order A.a_in_order A.d_in_order
  m_in_order : mg "in_order" = some (.ref A.a_in_order)
  b_in_order : Binds K A.d_in_order ["some", "weights"] []
  F_stretch_cost : Fun K "stretch_cost" "stretch_cost" s_stretch_cost A.a_stretch_cost A.d_stretch_cost
  m_stretch_cost : mg "stretch_cost" = some (.ref A.a_stretch_cost)
  b_stretch_cost : Binds K A.d_stretch_cost ["kind", "marks", "first", "last"] []
  F_joined : Fun K "joined" "joined" s_joined A.a_joined A.d_joined
  m_joined : mg "joined" = some (.ref A.a_joined)
  b_joined : Binds K A.d_joined ["kind", "one", "other"] []
  F_costs_to : Fun K "costs_to" "costs_to" s_costs_to A.a_costs_to A.d_costs_to
  m_costs_to : mg "costs_to" = some (.ref A.a_costs_to)
  b_costs_to : Binds K A.d_costs_to ["kind", "marks", "last"] []
  F_all_costs : Fun K "all_costs" "all_costs" s_all_costs A.a_all_costs A.d_all_costs
  m_all_costs : mg "all_costs" = some (.ref A.a_all_costs)
  b_all_costs : Binds K A.d_all_costs ["kind", "marks"] []
  F_is_above : Fun K "is_above" "is_above" s_is_above A.a_is_above A.d_is_above
  m_is_above : mg "is_above" = some (.ref A.a_is_above)
  b_is_above : Binds K A.d_is_above ["kind", "entry", "one", "other"] []
  F_step_least : Fun K "step_least" "step_least" s_step_least A.a_step_least A.d_step_least
  m_step_least : mg "step_least" = some (.ref A.a_step_least)
  b_step_least : Binds K A.d_step_least ["kind", "marks", "k"] []
  F_best_entry : Fun K "best_entry" "best_entry" s_best_entry A.a_best_entry A.d_best_entry
  m_best_entry : mg "best_entry" = some (.ref A.a_best_entry)
  b_best_entry : Binds K A.d_best_entry ["kind", "costs", "entries_ahead"] []
  F_laid_row : Fun K "laid_row" "laid_row" s_laid_row A.a_laid_row A.d_laid_row
  m_laid_row : mg "laid_row" = some (.ref A.a_laid_row)
  b_laid_row : Binds K A.d_laid_row ["kind", "marks", "starts"] []
  F_law_cell : Fun K "_law_cell" "_law_cell" s_law_cell A.a_law_cell A.d_law_cell
  m_law_cell : mg "_law_cell" = some (.ref A.a_law_cell)
  b_law_cell : Binds K A.d_law_cell ["script", "k"] []
  F_law_lowest : Fun K "_law_lowest" "_law_lowest" s_law_lowest A.a_law_lowest A.d_law_lowest
  m_law_lowest : mg "_law_lowest" = some (.ref A.a_law_lowest)
  b_law_lowest : Binds K A.d_law_lowest ["top", "bottom"] []
  F_law_whole : Fun K "_law_whole" "_law_whole" s_law_whole A.a_law_whole A.d_law_whole
  m_law_whole : mg "_law_whole" = some (.ref A.a_law_whole)
  b_law_whole : Binds K A.d_law_whole ["thing"] []
  F_law_fraction : Fun K "_law_fraction" "_law_fraction" s_law_fraction A.a_law_fraction A.d_law_fraction
  m_law_fraction : mg "_law_fraction" = some (.ref A.a_law_fraction)
  b_law_fraction : Binds K A.d_law_fraction ["found"] []
  F_law_heights : Fun K "_law_heights" "_law_heights" s_law_heights A.a_law_heights A.d_law_heights
  m_law_heights : mg "_law_heights" = some (.ref A.a_law_heights)
  b_law_heights : Binds K A.d_law_heights ["script", "many"] []
  F_law_weights : Fun K "_law_weights" "_law_weights" s_law_weights A.a_law_weights A.d_law_weights
  m_law_weights : mg "_law_weights" = some (.ref A.a_law_weights)
  b_law_weights : Binds K A.d_law_weights ["script", "many"] []
  F_law_bottom : Fun K "_law_bottom" "_law_bottom" s_law_bottom A.a_law_bottom A.d_law_bottom
  m_law_bottom : mg "_law_bottom" = some (.ref A.a_law_bottom)
  b_law_bottom : Binds K A.d_law_bottom ["script"] []
  F_law_marks : Fun K "_law_marks" "_law_marks" s_law_marks A.a_law_marks A.d_law_marks
  m_law_marks : mg "_law_marks" = some (.ref A.a_law_marks)
  b_law_marks : Binds K A.d_law_marks ["script", "heights", "weights", "bottom"] []
  F_law_cost : Fun K "_law_cost" "_law_cost" s_law_cost A.a_law_cost A.d_law_cost
  m_law_cost : mg "_law_cost" = some (.ref A.a_law_cost)
  b_law_cost : Binds K A.d_law_cost ["kind", "heights", "weights", "bottom"] []
  F_law_less : Fun K "_law_less" "_law_less" s_law_less A.a_law_less A.d_law_less
  m_law_less : mg "_law_less" = some (.ref A.a_law_less)
  b_law_less : Binds K A.d_law_less ["one", "other"] []
  F_law_joined : Fun K "_law_joined" "_law_joined" s_law_joined A.a_law_joined A.d_law_joined
  m_law_joined : mg "_law_joined" = some (.ref A.a_law_joined)
  b_law_joined : Binds K A.d_law_joined ["kind", "one", "other"] []
  F_law_missed : Fun K "_law_missed" "_law_missed" s_law_missed A.a_law_missed A.d_law_missed
  m_law_missed : mg "_law_missed" = some (.ref A.a_law_missed)
  b_law_missed : Binds K A.d_law_missed ["kind", "some", "row"] []
  F_law_row : Fun K "_law_row" "_law_row" s_law_row A.a_law_row A.d_law_row
  m_law_row : mg "_law_row" = some (.ref A.a_law_row)
  b_law_row : Binds K A.d_law_row ["found", "many"] []
  F_law_steps : Fun K "_law_steps" "_law_steps" s_law_steps A.a_law_steps A.d_law_steps
  m_law_steps : mg "_law_steps" = some (.ref A.a_law_steps)
  b_law_steps : Binds K A.d_law_steps ["row"] []
  F_law_is_low : Fun K "_law_is_low" "_law_is_low" s_law_is_low A.a_law_is_low A.d_law_is_low
  m_law_is_low : mg "_law_is_low" = some (.ref A.a_law_is_low)
  b_law_is_low : Binds K A.d_law_is_low ["kind", "costs", "table"] []
  F_law_many_steps : Fun K "_law_many_steps" "_law_many_steps" s_law_many_steps A.a_law_many_steps A.d_law_many_steps
  m_law_many_steps : mg "_law_many_steps" = some (.ref A.a_law_many_steps)
  b_law_many_steps : Binds K A.d_law_many_steps ["script", "many"] []
  F_law : Fun K "law" "law" s_law A.a_law A.d_law
  m_law : mg "law" = some (.ref A.a_law)
  b_law : Binds K A.d_law ["script"] []
  x_NoNumber : ExcCl K mg "NoNumber" A.x_NoNumber
  x_NoKind : ExcCl K mg "NoKind" A.x_NoKind
  n_a : mg "a" = none
  n_abs : mg "abs" = none
  n_b : mg "b" = none
  n_bool : mg "bool" = none
  n_enumerate : mg "enumerate" = none
  n_first : mg "first" = none
  n_h : mg "h" = none
  n_height : mg "height" = none
  n_int : mg "int" = none
  n_isinstance : mg "isinstance" = none
  n_last : mg "last" = none
  n_len : mg "len" = none
  n_list : mg "list" = none
  n_mark : mg "mark" = none
  n_max : mg "max" = none
  n_min : mg "min" = none
  n_miss : mg "miss" = none
  n_one : mg "one" = none
  n_pair : mg "pair" = none
  n_range : mg "range" = none
  n_some : mg "some" = none
  n_str : mg "str" = none
  n_sum : mg "sum" = none
  n_tuple : mg "tuple" = none
  n_w : mg "w" = none
  n_weight : mg "weight" = none
  n_zip : mg "zip" = none
  c_KINDS : mg "KINDS" = some (.ref A.g_KINDS)
  k_KINDS : ∀ H : Hp, DV K H (.ref A.g_KINDS) (.tuple [(.str "far"), (.str "sum"), (.str "square")])
  c_MOST_STEPS : ∃ t, mg "MOST_STEPS" = some (.int 59 t)
  c_NOUGHT : mg "NOUGHT" = some (.ref A.g_NOUGHT)
  k_NOUGHT : ∀ H : Hp, DV K H (.ref A.g_NOUGHT) (.tuple [(.int 0), (.int 1)])
noncomputable abbrev bt_abs := PyProof.Rows.boot_abs
noncomputable abbrev bt_isinstance := PyProof.Rows.boot_isinstance
noncomputable abbrev bt_int := PyProof.Rows.boot_int
noncomputable abbrev bt_bool := PyProof.Rows.boot_bool
noncomputable abbrev bt_tuple := PyProof.Rows.boot_tuple
noncomputable abbrev bt_list := PyProof.Rows.boot_list
noncomputable abbrev bt_min := PyProof.Rows.boot_min
noncomputable abbrev bt_max := PyProof.Rows.boot_max
theorem bt_sum : bootBuiltins "sum" = some (.builtin "sum") := by decide +kernel
local macro_rules | `(tactic| walk_at "d") => `(tactic| (try simp only [startN, slot, put, dVar, dBVar, dLVar, dC, dFz, dAsL, dNil, dCons, dTup, dLst, dOp, oI, oI0, oB0, oEq, oNe, oIsN, dNeg, dIxK, nth, dMap, dCb, bAbs, bMin, bMax1, bMin1, bSum, bLen, bInt, dListOf, dRows, dCallFz, fzS, dUnpG, dFrzK, okF, dFin, rwA, tbA, dNoP, dPart, dSl, dAsB, dAnd, dOr, dNot, dAndV, dNotV, dCall, dCall0, dCallO0, dCallB0, dNext, dRet, dRetO, dRetV, dDrop, dIfS, gvName, gvNil, gvCons, gvTup, dAsg, dSetO, dAsgN0, noOwn, frzAt, dFrz, dPar, dRaise, dApp, dRng1, dRng2, capD, dYes, dIsi, isD, tyD, dCat, dMVar, dIxL, dZip, dEnum, dIns, dRep, dFzV, mask, flatS, ownS, anyS, flatD, flatDs, Bool.and_true, Bool.true_and, Bool.and_self, Bool.not_true, Bool.not_false, true_and, and_true, decide_eq_true_eq, Bool.not_eq_true', decide_eq_false_iff_not, if_true, if_false, ite_true, ite_false, Bool.false_eq_true, Bool.true_eq_false, not_true_eq_false, not_false_eq_true, reduceCtorEq, List.length_cons, List.length_nil, List.length_map]))
local macro_rules | `(tactic| walk_at "s") => `(tactic| (walk_at "d"; refine seq_mk ?_; walk_at "d"))
theorem bt_str : bootBuiltins "str" = some (.type "str") := by decide +kernel
noncomputable abbrev fr (q : Rat) : PyData := .tuple [.int q.num, .int (q.den : Int)]
theorem wee_nat {g : Nat} {b : Int} (h : g ≤ b.natAbs) (hb : Wee b) : Wee (g : Int) := by
  unfold Wee at *
  omega
theorem wee_neg {b : Int} (hb : Wee b) : Wee (-b) := by
  unfold Wee at *
  omega
theorem cpow {i j : Int} (h : decide (0 ≤ j ∧ j ≤ 1000000 ∧ i.natAbs < 2 ^ 64) = true) : CPow i j := (of_decide_eq_true h : 0 ≤ j ∧ j ≤ 1000000 ∧ i.natAbs < 2 ^ 64)
theorem wee {i : Int} (h : decide (i.natAbs < 2 ^ 8000) = true) : Wee i := (of_decide_eq_true h : i.natAbs < 2 ^ 8000)
theorem weeLe {i : Int} {n : Nat} (h : i.natAbs ≤ n) (hn : decide (n < 2 ^ 8000) = true) : Wee i := Nat.lt_of_le_of_lt h (of_decide_eq_true hn)
theorem cdiv {i j : Int} (h : decide (0 < j ∧ j.natAbs < 2 ^ 8000) = true) : CDivB i j := (of_decide_eq_true h : 0 < j ∧ j.natAbs < 2 ^ 8000)
structure Ok (q : Rat) : Prop where
  n : Wee q.num
  d : Wee (q.den : Int)
theorem wee_natle {g b : Nat} (h : g ≤ b) (hb : Wee (b : Int)) : Wee (g : Int) := by
  unfold Wee at *
  omega
theorem dpos (q : Rat) : (0 : Int) < (q.den : Int) := by have := q.den_nz; omega
theorem okS {q : Rat} {N : Nat} (h : Fm.Sz N q) (hN : decide (N < 2 ^ 8000) = true) : Ok q := ⟨weeLe h.n hN, weeLe (n := N) (by have := h.d; omega) hN⟩
theorem fr_flat (q : Rat) : flatD (fr q) = true := rfl
theorem frs_flat : ∀ qs : List Rat, flatDs (qs.map fr) = true
  | [] => rfl
  | q :: qs => by
    have := frs_flat qs
    simp only [List.map_cons, flatDs, fr_flat, this, Bool.and_self]
section
variable {P : Program} {w : World} {K : PySem.W.Frag} {mg : Str → Option Value} {base : Heap} {A : Adr}
noncomputable def wGcd : DW := fun ds Q _ => ∃ a b : Int, ds = [.int a, .int b] ∧ 0 ≤ a ∧ 0 ≤ b ∧ Q (.dat (.int ((Int.gcd a b : Nat) : Int)))
theorem ok_common_divisor (T : Txt K mg A) : FnOk P w K mg base (CXE P w) 1 A.a_common_divisor A.d_common_divisor ["one", "other"] (spW K wGcd) := by
  refine okW T.F_common_divisor sc_common_divisor (fun ds Q E h => ?_) (fun cdv Ar outer s H E hr => ?_)
  · obtain ⟨a, b, rfl, _⟩ := h; rfl
  refine ⟨_, (pss_cons (ps_while PassesOwn.leaving (pt_cmpR op_ne (pv 1) pe_int (nomark _)) (pss_cons (ps_set (i := 2) sc_common_divisor.nd rfl (Or.inl rfl) (pe_op op_mod (pv 0) (pv 1)))
      (pss_cons (ps_set (i := 0) sc_common_divisor.nd rfl (Or.inl rfl) (pv 1))
      (pss_one (ps_set (i := 1) sc_common_divisor.nd rfl (Or.inl rfl) (pv 2))))))
      (pss_one (ps_ret (pv 0)))), _, (sv_seq (sv_while (tv_test (bv_ev (ev_op ro_ne (bv_var 1) (bv_ev ev_int)))) (sv_seq (sv_asg (ev_op ro_i (bv_var 0) (bv_var 1)) (gv_name 2))
      (sv_seq (sv_asg (ev_var 1) (gv_name 0))
      (sv_asg (ev_var 2) (gv_name 1)))))
      (sv_retV 0)), ?_⟩
  rintro ds Q X ⟨a, b, rfl, ha, hb, k⟩
  walk_at "s"
  refine ⟨fun m δ => ∃ x y r, δ = [some (.dat (.int x)), some (.dat (.int y)), r] ∧ m = y.toNat ∧ 0 ≤ x ∧ 0 ≤ y ∧ Int.gcd x y = Int.gcd a b, ⟨_, a, b, none, rfl, rfl, ha, hb, rfl⟩, ?_⟩
  rintro m δ ⟨x, y, r, rfl, rfl, hx, hy, hg⟩
  walk_at "d"
  refine ite2 (fun c => ?_) (fun c => ?_)
  · have hy0 : y ≠ 0 := c
    have hp : 0 < y := by omega
    walk_at "s"
    refine ⟨hp, ?_⟩
    walk_at "s"
    walk_at "d"
    refine ⟨_, ?_, y, x % y, _, rfl, rfl, hy, Int.emod_nonneg _ hy0, ?_⟩
    · have := Int.emod_lt_of_pos x hp
      have := Int.emod_nonneg x hy0
      omega
    · rw [Fm.gcd_step x y hp, hg]
  · have hy0 : y = 0 := Decidable.not_not.mp c
    subst hy0
    rw [← hg, Fm.gcd_zero hx] at k
    exact k
noncomputable def wFraction (C : Addr) : DW := fun ds Q X => ∃ t b : Int, ds = [.int t, .int b] ∧ Wee b ∧ (b = 0 → X C) ∧ (b ≠ 0 → Q (.dat (fr (Rat.divInt t b))))
theorem ok_fraction (T : Txt K mg A) : FnOk P w K mg base (CXE P w) 2 A.a_fraction A.d_fraction ["top", "bottom"] (spW K (wFraction A.x_NoNumber)) := by
  have G_common_divisor := ok_common_divisor (P := P) (w := w) (base := base) T
  refine okW T.F_fraction sc_fraction (fun ds Q E h => ?_) (fun cdv Ar outer s H E hr => ?_)
  · obtain ⟨a, b, rfl, _⟩ := h; rfl
  refine ⟨_, (pss_cons (ps_if (pt_cmpR op_eq (pv 1) pe_int (nomark _)) (pss_one (ps_raise T.x_NoNumber hr.hd pass_own rfl (pa_cons pe_str pa_nil))) pss_nil)
      (pss_cons (ps_set (i := 2) sc_fraction.nd rfl (Or.inl rfl) (pe_call G_common_divisor (hr.mono (by decide)) rfl T.m_common_divisor T.F_common_divisor.kp T.b_common_divisor .nil passE0 (pa_cons (pe_callB call_abs rfl T.n_abs bt_abs (pa_cons (pv 0) pa_nil)) (pa_cons (pe_callB call_abs rfl T.n_abs bt_abs (pa_cons (pv 1) pa_nil)) pa_nil))))
      (pss_cons (ps_if (pt_cmpR op_lt (pv 1) pe_int (nomark _)) (pss_one (ps_set (i := 2) sc_fraction.nd rfl (Or.inl rfl) (pe_un un_neg (pv 2)))) pss_nil)
      (pss_one (ps_ret (pe_tup (pa_cons (pe_op op_fdivW (pv 0) (pv 2)) (pa_cons (pe_op op_fdivW (pv 1) (pv 2)) pa_nil)))))))), _, (sv_seq (sv_if (tv_test (bv_ev (ev_op ro_eq (bv_var 1) (bv_ev ev_int)))) (sv_raise (ae_cons ev_str ae_nil) (by decide)) sv_next)
      (sv_seq (sv_asg (ev_call0 (av_cons (bv_ev (ev_cb rb_abs (av_cons (bv_var 0) av_nil))) (av_cons (bv_ev (ev_cb rb_abs (av_cons (bv_var 1) av_nil))) av_nil))) (gv_name 2))
      (sv_cut (sv_if (tv_test (bv_ev (ev_op ro_b0 (bv_var 1) (bv_ev ev_int)))) (sv_asg (ev_neg (bv_var 2)) (gv_name 2)) sv_next)
      (sv_ret (bv_ev (ev_tup (ae_cons (ev_op ro_i (bv_var 0) (bv_var 2)) (ae_cons (ev_op ro_i (bv_var 1) (bv_var 2)) ae_nil)) (by decide))))))), ?_⟩
  rintro ds Q X ⟨t, b, rfl, hw, k0, k1⟩
  walk_at "s"
  refine ite2 (fun c => ?_) (fun c => ?_)
  · exact k0 c
  have hb : b ≠ 0 := c
  have kq := k1 hb
  walk_at "s"
  refine ⟨_, _, rfl, by rw [Fm.abs_if]; omega, by rw [Fm.abs_if]; omega, ?_⟩
  have eg : Int.gcd (if t < 0 then -t else t) (if b < 0 then -b else b) = Int.gcd t b := by
    rw [Fm.abs_if, Fm.abs_if]
    simp [Int.gcd]
  rw [eg]
  walk_at "d"
  refine ?_
  have h1 := Fm.gcd_pos_right (a := t) hb
  have h2 := wee_nat (Fm.gcd_le_right (a := t) hb) hw
  refine cut_mk (fun δ => δ = [some (.dat (.int t)), some (.dat (.int b)), some (.dat (.int (if b < 0 then -((Int.gcd t b : Nat) : Int) else ((Int.gcd t b : Nat) : Int))))]) ?_ ?_
  · walk_at "d"
    refine ite2 (fun c2 => ?_) (fun c2 => ?_)
    · rw [if_pos c2]
    · rw [if_neg c2]
  · rintro δ rfl
    walk_at "d"
    have hg : (if b < 0 then -((Int.gcd t b : Nat) : Int) else ((Int.gcd t b : Nat) : Int)) ≠ 0 := by split <;> omega
    have hg2 : Wee (if b < 0 then -((Int.gcd t b : Nat) : Int) else ((Int.gcd t b : Nat) : Int)) := by
      split
      · exact wee_neg h2
      · exact h2
    refine ⟨⟨hg, hg2⟩, ⟨hg, hg2⟩, ?_⟩
    rw [Fm.fr_num hb, Fm.fr_den hb]
    exact kq
end
noncomputable def wTwo (f : Rat → Rat → Rat) : DW := fun ds Q _ => ∃ a b : Rat, ds = [fr a, fr b] ∧ Ok a ∧ Ok b ∧ Q (.dat (fr (f a b)))
section
variable {P : Program} {w : World} {K : PySem.W.Frag} {mg : Str → Option Value} {base : Heap} {A : Adr}
theorem ok_plus (T : Txt K mg A) : FnOk P w K mg base (CXE P w) 2 A.a_plus A.d_plus ["one", "other"] (spW K (wTwo (· + ·))) := by
  have G_common_divisor := ok_common_divisor (P := P) (w := w) (base := base) T
  refine okW T.F_plus sc_plus (fun ds Q E h => ?_) (fun cdv Ar outer s H E hr => ?_)
  · obtain ⟨a, b, rfl, _⟩ := h; rfl
  refine ⟨_, (pss_cons (ps_set (i := 2) sc_plus.nd rfl (Or.inl rfl) (pe_call G_common_divisor (hr.mono (by decide)) rfl T.m_common_divisor T.F_common_divisor.kp T.b_common_divisor .nil passE0 (pa_cons (pe_ix (ixtK (K := K) rfl) (pv 0) pe_int (fun _ _ => rfl)) (pa_cons (pe_ix (ixtK (K := K) rfl) (pv 1) pe_int (fun _ _ => rfl)) pa_nil))))
      (pss_cons (ps_set (i := 3) sc_plus.nd rfl (Or.inl rfl) (pe_op op_fdivB (pe_ix (ixtK (K := K) rfl) (pv 0) pe_int (fun _ _ => rfl)) (pv 2)))
      (pss_cons (ps_set (i := 4) sc_plus.nd rfl (Or.inl rfl) (pe_op op_add (pe_op op_mulB (pe_ix (ixtK (K := K) rfl) (pv 0) pe_int (fun _ _ => rfl)) (pe_op op_fdivB (pe_ix (ixtK (K := K) rfl) (pv 1) pe_int (fun _ _ => rfl)) (pv 2))) (pe_op op_mulB (pe_ix (ixtK (K := K) rfl) (pv 1) pe_int (fun _ _ => rfl)) (pv 3))))
      (pss_cons (ps_set (i := 5) sc_plus.nd rfl (Or.inl rfl) (pe_call G_common_divisor (hr.mono (by decide)) rfl T.m_common_divisor T.F_common_divisor.kp T.b_common_divisor .nil passE0 (pa_cons (pv 2) (pa_cons (pe_callB call_abs rfl T.n_abs bt_abs (pa_cons (pv 4) pa_nil)) pa_nil))))
      (pss_one (ps_ret (pe_tup (pa_cons (pe_op op_fdivB (pv 4) (pv 5)) (pa_cons (pe_op op_mulB (pv 3) (pe_op op_fdivB (pe_ix (ixtK (K := K) rfl) (pv 1) pe_int (fun _ _ => rfl)) (pv 5))) pa_nil))))))))), _, (sv_seq (sv_asg (ev_call0 (av_cons (bv_ev (ev_ixk 1 (ev_var 0))) (av_cons (bv_ev (ev_ixk 1 (ev_var 1))) av_nil))) (gv_name 2))
      (sv_seq (sv_asg (ev_op ro_i (bv_ev (ev_ixk 1 (ev_var 0))) (bv_var 2)) (gv_name 3))
      (sv_seq (sv_asg (ev_op ro_i0 (bv_ev (ev_op ro_i (bv_ev (ev_ixk 0 (ev_var 0))) (bv_ev (ev_op ro_i (bv_ev (ev_ixk 1 (ev_var 1))) (bv_var 2))))) (bv_ev (ev_op ro_i (bv_ev (ev_ixk 0 (ev_var 1))) (bv_var 3)))) (gv_name 4))
      (sv_seq (sv_asg (ev_call0 (av_cons (bv_var 2) (av_cons (bv_ev (ev_cb rb_abs (av_cons (bv_var 4) av_nil))) av_nil))) (gv_name 5))
      (sv_ret (bv_ev (ev_tup (ae_cons (ev_op ro_i (bv_var 4) (bv_var 5)) (ae_cons (ev_op ro_i (bv_var 3) (bv_ev (ev_op ro_i (bv_ev (ev_ixk 1 (ev_var 1))) (bv_var 5)))) ae_nil)) (by decide)))))))), ?_⟩
  rintro ds Q X ⟨a, b, rfl, oa, ob, k⟩
  have s0 : 0 < a.den.gcd b.den := Nat.gcd_pos_of_pos_left _ (Nat.pos_of_ne_zero a.den_nz)
  have sw : Wee ((a.den.gcd b.den : Nat) : Int) := wee_natle (Nat.le_of_dvd (Nat.pos_of_ne_zero a.den_nz) (Nat.gcd_dvd_left _ _)) oa.d
  walk_at "s"
  refine ⟨_, _, rfl, by omega, by omega, ?_⟩
  rw [Int.gcd_natCast_natCast]
  generalize hs : a.den.gcd b.den = sh at s0 sw ⊢
  walk_at "d"
  refine ?_
  walk_at "s"
  refine ⟨⟨by omega, sw⟩, ?_⟩
  rw [← Int.natCast_ediv]
  walk_at "s"
  refine ⟨⟨by omega, sw⟩, ?_⟩
  rw [← Int.natCast_ediv]
  refine ⟨mulOk oa.n (wee_natle (Nat.div_le_self _ _) ob.d), mulOk ob.n (wee_natle (Nat.div_le_self _ _) oa.d), ?_⟩
  generalize ht : a.num * ((b.den / sh : Nat) : Int) + b.num * ((a.den / sh : Nat) : Int) = tp
  walk_at "s"
  refine ⟨_, _, rfl, by omega, by rw [Fm.abs_if]; omega, ?_⟩
  rw [Fm.abs_if, Int.gcd_natCast_natCast]
  generalize hg : sh.gcd tp.natAbs = g
  have g0 : 0 < g := by rw [← hg]; exact Nat.gcd_pos_of_pos_left _ s0
  have gw : Wee (g : Int) := wee_natle (by rw [← hg]; exact Nat.le_of_dvd s0 (Nat.gcd_dvd_left _ _)) sw
  walk_at "d"
  refine ?_
  obtain ⟨e1, e2⟩ := Fm.add_parts a b sh hs.symm tp ht.symm g hg.symm
  walk_at "d"
  refine ⟨⟨by omega, gw⟩, ⟨by omega, gw⟩, mulOk (wee_natle (Nat.div_le_self _ _) oa.d) (by rw [← Int.natCast_ediv]; exact wee_natle (Nat.div_le_self _ _) ob.d), ?_⟩
  rw [← Int.natCast_ediv, ← Int.natCast_mul, ← e1, ← e2]
  exact k
theorem ok_minus (T : Txt K mg A) : FnOk P w K mg base (CXE P w) 3 A.a_minus A.d_minus ["one", "other"] (spW K (wTwo (· - ·))) := by
  have G_plus := ok_plus (P := P) (w := w) (base := base) T
  refine okW T.F_minus sc_minus (fun ds Q E h => ?_) (fun cdv Ar outer s H E hr => ?_)
  · obtain ⟨a, b, rfl, _⟩ := h; rfl
  refine ⟨_, (pss_one (ps_ret (pe_call G_plus (hr.mono (by decide)) rfl T.m_plus T.F_plus.kp T.b_plus .nil passE0 (pa_cons (pv 0) (pa_cons (pe_tup (pa_cons (pe_un un_neg (pe_ix (ixtK (K := K) rfl) (pv 1) pe_int (fun _ _ => rfl))) (pa_cons (pe_ix (ixtK (K := K) rfl) (pv 1) pe_int (fun _ _ => rfl)) pa_nil))) pa_nil))))), _, (sv_ret (bv_ev (ev_call0 (av_cons (bv_var 0) (av_cons (bv_ev (ev_tup (ae_cons (ev_neg (bv_ev (ev_ixk 0 (ev_var 1)))) (ae_cons (ev_ixk 1 (ev_var 1)) ae_nil)) (by decide))) av_nil))))), ?_⟩
  rintro ds Q X ⟨a, b, rfl, oa, ob, k⟩
  walk_at "d"
  refine ⟨a, -b, rfl, oa, ⟨wee_neg ob.n, ob.d⟩, rfl, ?_⟩
  dsimp only
  rw [← Rat.sub_eq_add_neg]
  exact k
theorem ok_product (T : Txt K mg A) : FnOk P w K mg base (CXE P w) 3 A.a_product A.d_product ["one", "other"] (spW K (wTwo (· * ·))) := by
  have G_fraction := ok_fraction (P := P) (w := w) (base := base) T
  refine okW T.F_product sc_product (fun ds Q E h => ?_) (fun cdv Ar outer s H E hr => ?_)
  · obtain ⟨a, b, rfl, _⟩ := h; rfl
  refine ⟨_, (pss_cons (ps_set (i := 2) sc_product.nd rfl (Or.inl rfl) (pe_call G_fraction (hr.mono (by decide)) rfl T.m_fraction T.F_fraction.kp T.b_fraction .nil passE0 (pa_cons (pe_ix (ixtK (K := K) rfl) (pv 0) pe_int (fun _ _ => rfl)) (pa_cons (pe_ix (ixtK (K := K) rfl) (pv 1) pe_int (fun _ _ => rfl)) pa_nil))))
      (pss_cons (ps_set (i := 3) sc_product.nd rfl (Or.inl rfl) (pe_call G_fraction (hr.mono (by decide)) rfl T.m_fraction T.F_fraction.kp T.b_fraction .nil passE0 (pa_cons (pe_ix (ixtK (K := K) rfl) (pv 1) pe_int (fun _ _ => rfl)) (pa_cons (pe_ix (ixtK (K := K) rfl) (pv 0) pe_int (fun _ _ => rfl)) pa_nil))))
      (pss_one (ps_ret (pe_tup (pa_cons (pe_op op_mulB (pe_ix (ixtK (K := K) rfl) (pv 2) pe_int (fun _ _ => rfl)) (pe_ix (ixtK (K := K) rfl) (pv 3) pe_int (fun _ _ => rfl))) (pa_cons (pe_op op_mulB (pe_ix (ixtK (K := K) rfl) (pv 2) pe_int (fun _ _ => rfl)) (pe_ix (ixtK (K := K) rfl) (pv 3) pe_int (fun _ _ => rfl))) pa_nil))))))), _, (sv_seq (sv_asg (ev_call0 (av_cons (bv_ev (ev_ixk 0 (ev_var 0))) (av_cons (bv_ev (ev_ixk 1 (ev_var 1))) av_nil))) (gv_name 2))
      (sv_seq (sv_asg (ev_call0 (av_cons (bv_ev (ev_ixk 0 (ev_var 1))) (av_cons (bv_ev (ev_ixk 1 (ev_var 0))) av_nil))) (gv_name 3))
      (sv_ret (bv_ev (ev_tup (ae_cons (ev_op ro_i (bv_ev (ev_ixk 0 (ev_var 2))) (bv_ev (ev_ixk 0 (ev_var 3)))) (ae_cons (ev_op ro_i (bv_ev (ev_ixk 1 (ev_var 2))) (bv_ev (ev_ixk 1 (ev_var 3)))) ae_nil)) (by decide)))))), ?_⟩
  rintro ds Q X ⟨a, b, rfl, oa, ob, k⟩
  have z1 : ((b.den : Nat) : Int) ≠ 0 := by have := b.den_nz; omega
  have z2 : ((a.den : Nat) : Int) ≠ 0 := by have := a.den_nz; omega
  obtain ⟨e1, e2⟩ := Fm.mul_parts a b
  walk_at "s"
  refine ⟨_, _, rfl, ob.d, fun z => absurd z z1, fun _ => ?_⟩
  walk_at "s"
  refine ⟨_, _, rfl, oa.d, fun z => absurd z z2, fun _ => ?_⟩
  have n1 := Fm.num_le a.num z1
  have n2 := Fm.den_le a.num z1
  have n3 := Fm.num_le b.num z2
  have n4 := Fm.den_le b.num z2
  have w1 := oa.n; have w2 := oa.d; have w3 := ob.n; have w4 := ob.d
  walk_at "d"
  refine ⟨mulOk (by unfold Wee at *; omega) (by unfold Wee at *; omega), mulOk (by unfold Wee at *; omega) (by unfold Wee at *; omega), ?_⟩
  rw [← Int.natCast_mul, ← e1, ← e2]
  exact k
noncomputable def wLess : DW := fun ds Q _ => ∃ a b : Rat, ds = [fr a, fr b] ∧ Ok a ∧ Ok b ∧ Q (.dat (.bool (decide (a < b))))
theorem ok_is_less (T : Txt K mg A) : FnOk P w K mg base (CXE P w) 1 A.a_is_less A.d_is_less ["one", "other"] (spW K wLess) := by
  refine okW T.F_is_less sc_is_less (fun ds Q E h => ?_) (fun cdv Ar outer s H E hr => ?_)
  · obtain ⟨a, b, rfl, _⟩ := h; rfl
  refine ⟨_, (pss_one (ps_ret (pe_cmpR op_lt (pe_op op_mulB (pe_ix (ixtK (K := K) rfl) (pv 0) pe_int (fun _ _ => rfl)) (pe_ix (ixtK (K := K) rfl) (pv 1) pe_int (fun _ _ => rfl))) (pe_op op_mulB (pe_ix (ixtK (K := K) rfl) (pv 1) pe_int (fun _ _ => rfl)) (pe_ix (ixtK (K := K) rfl) (pv 0) pe_int (fun _ _ => rfl))) (nomark _)))), _, (sv_ret (bv_ev (ev_op ro_b0 (bv_ev (ev_op ro_i (bv_ev (ev_ixk 0 (ev_var 0))) (bv_ev (ev_ixk 1 (ev_var 1))))) (bv_ev (ev_op ro_i (bv_ev (ev_ixk 0 (ev_var 1))) (bv_ev (ev_ixk 1 (ev_var 0)))))))), ?_⟩
  rintro ds Q X ⟨a, b, rfl, oa, ob, k⟩
  walk_at "d"
  refine ⟨mulOk oa.n ob.d, mulOk ob.n oa.d, ?_⟩
  have e : decide (a.num * (b.den : Int) < b.num * (a.den : Int)) = decide (a < b) := by
    rw [decide_eq_decide]; exact Fm.less_iff a b
  rw [e]
  exact k
noncomputable def wQuot (C : Addr) : DW := fun ds Q X => ∃ a b : Rat, ds = [fr a, fr b] ∧ Ok a ∧ Ok b ∧ (b = 0 → X C) ∧ (b ≠ 0 → Q (.dat (fr (a / b))))
theorem ok_quotient (T : Txt K mg A) : FnOk P w K mg base (CXE P w) 4 A.a_quotient A.d_quotient ["one", "other"] (spW K (wQuot A.x_NoNumber)) := by
  have G_fraction := ok_fraction (P := P) (w := w) (base := base) T
  have G_product := ok_product (P := P) (w := w) (base := base) T
  refine okW T.F_quotient sc_quotient (fun ds Q E h => ?_) (fun cdv Ar outer s H E hr => ?_)
  · obtain ⟨a, b, rfl, _⟩ := h; rfl
  refine ⟨_, (pss_cons (ps_if (pt_cmpR op_eq (pe_ix (ixtK (K := K) rfl) (pv 1) pe_int (fun _ _ => rfl)) pe_int (nomark _)) (pss_one (ps_raise T.x_NoNumber hr.hd pass_own rfl (pa_cons pe_str pa_nil))) pss_nil)
      (pss_one (ps_ret (pe_call G_product (hr.mono (by decide)) rfl T.m_product T.F_product.kp T.b_product .nil passE0 (pa_cons (pv 0) (pa_cons (pe_call G_fraction (hr.mono (by decide)) rfl T.m_fraction T.F_fraction.kp T.b_fraction .nil passE0 (pa_cons (pe_ix (ixtK (K := K) rfl) (pv 1) pe_int (fun _ _ => rfl)) (pa_cons (pe_ix (ixtK (K := K) rfl) (pv 1) pe_int (fun _ _ => rfl)) pa_nil))) pa_nil)))))), _, (sv_seq (sv_if (tv_test (bv_ev (ev_op ro_eq (bv_ev (ev_ixk 0 (ev_var 1))) (bv_ev ev_int)))) (sv_raise (ae_cons ev_str ae_nil) (by decide)) sv_next)
      (sv_ret (bv_ev (ev_call0 (av_cons (bv_var 0) (av_cons (bv_ev (ev_call0 (av_cons (bv_ev (ev_ixk 1 (ev_var 1))) (av_cons (bv_ev (ev_ixk 0 (ev_var 1))) av_nil)))) av_nil)))))), ?_⟩
  rintro ds Q X ⟨a, b, rfl, oa, ob, k0, k1⟩
  walk_at "s"
  refine ite2 (fun c => ?_) (fun c => ?_)
  · exact k0 (Rat.num_eq_zero.mp c)
  · have c2 : b.num ≠ 0 := c
    have hb : b ≠ 0 := fun z => c2 (by rw [z]; rfl)
    walk_at "d"
    refine ⟨_, _, rfl, ob.n, fun z => absurd z c2, fun _ => ⟨rfl, a, b⁻¹, ?_, oa, ?_, rfl, ?_⟩⟩
    · rw [Fm.div_inv]
    · rw [← Fm.div_inv]
      have n1 := Fm.num_le (b.den : Int) c2
      have n2 := Fm.den_le (b.den : Int) c2
      have w3 := ob.n; have w4 := ob.d
      exact ⟨by unfold Wee at *; omega, by unfold Wee at *; omega⟩
    · dsimp only
      rw [← Rat.div_def]
      exact k1 hb
end
theorem atI_map {α β : Type} (f : α → β) (xs : List α) (i : Int) : atI (xs.map f) i = (atI xs i).map f := by
  unfold atI
  rw [List.length_map]
  cases ixN xs.length i with
  | none => rfl
  | some j => exact List.getElem?_map
theorem atI_k {α : Type} [Inhabited α] {xs : List α} {k : Int} (h0 : 0 ≤ k) (h1 : k < (xs.length : Int)) : atI xs k = some (xs.getD k.toNat default) := by
  have e : k = ((k.toNat : Nat) : Int) := by omega
  have hl : k.toNat < xs.length := by omega
  conv => lhs; rw [e]
  refine atI_nat ?_
  rw [List.getElem?_eq_getElem hl]
  simp [List.getD, hl]
theorem atI_mk {α β : Type} [Inhabited α] (f : α → β) {xs : List α} {k : Int} (h0 : 0 ≤ k) (h1 : k < (xs.length : Int)) : atI (xs.map f) k = some (f (xs.getD k.toNat default)) := by
  rw [atI_map, atI_k h0 h1]; rfl
theorem getD_mem' {α : Type} [Inhabited α] {xs : List α} {j : Nat} (h : j < xs.length) : xs.getD j default ∈ xs := by
  have e : xs.getD j default = xs[j] := by simp [List.getD, h]
  rw [e]; exact List.getElem_mem h
theorem getD_all {α : Type} [Inhabited α] {xs : List α} {j : Nat} {p : α → Prop} (h : ∀ v ∈ xs, p v) (h0 : p default) : p (xs.getD j default) := by
  by_cases hj : j < xs.length
  · exact h _ (getD_mem' hj)
  · have e : xs.getD j default = default := by simp [List.getD, hj]
    rw [e]; exact h0
section
variable {P : Program} {w : World} {K : PySem.W.Frag} {mg : Str → Option Value} {base : Heap} {A : Adr}
noncomputable def wGreatest (C : Addr) : DW := fun ds Q X => ∃ qs : List Rat, ds = [.list (qs.map fr)] ∧ (∀ q ∈ qs, Ok q) ∧ (qs = [] → X C) ∧ ∀ q ∈ qs, (∀ r ∈ qs, r ≤ q) → Q (.dat (fr q))
theorem ok_greatest_of (T : Txt K mg A) : FnOk P w K mg base (CXE P w) 2 A.a_greatest_of A.d_greatest_of ["some"] (spW K (wGreatest A.x_NoNumber)) := by
  have G_is_less := ok_is_less (P := P) (w := w) (base := base) T
  refine okW T.F_greatest_of sc_greatest_of (fun ds Q E h => ?_) (fun cdv Ar outer s H E hr => ?_)
  · obtain ⟨a, rfl, _⟩ := h; rfl
  refine ⟨_, (pss_cons (ps_if (pt_cmpR op_eq (pe_callB (lenK (K := K) rfl) rfl T.n_len PySem.boot_len (pa_cons (pv 0) pa_nil)) pe_int (nomark _)) (pss_one (ps_raise T.x_NoNumber hr.hd pass_own rfl (pa_cons pe_str pa_nil))) pss_nil)
      (pss_cons (ps_set (i := 1) sc_greatest_of.nd rfl (Or.inl rfl) (pe_ix (ixlK (K := K) rfl) (pv 0) pe_int (fun _ _ => rfl)))
      (pss_cons (ps_for PassesOwn.leaving rfl (pilK (K := K) rfl (pv 0)) (pg_name (i := 2) sc_greatest_of.nd rfl (Or.inl rfl))
        (pss_one (ps_if (pt_val (pe_call G_is_less (hr.mono (by decide)) rfl T.m_is_less T.F_is_less.kp T.b_is_less .nil passE0 (pa_cons (pv 1) (pa_cons (pv 2) pa_nil)))) (pss_one (ps_set (i := 1) sc_greatest_of.nd rfl (Or.inl rfl) (pv 2))) pss_nil)))
      (pss_one (ps_ret (pv 1)))))), _, (sv_seq (sv_if (tv_test (bv_ev (ev_op ro_eq (bv_ev (ev_cb rb_len (av_cons (bv_var 0) av_nil))) (bv_ev ev_int)))) (sv_raise (ae_cons ev_str ae_nil) (by decide)) sv_next)
      (sv_seq (sv_asg (ev_ixl (lv_var 0) (bv_ev ev_int)) (gv_name 1))
      (sv_seq (sv_for (is_list (ev_var 0)) (gv_name 2)
        (sv_if (tv_b (bv_ev (ev_call0 (av_cons (bv_var 1) (av_cons (bv_var 2) av_nil))))) (sv_asg (ev_var 2) (gv_name 1)) sv_next))
      (sv_retV 1)))), ?_⟩
  rintro ds Q X ⟨qs, rfl, ho, k0, k⟩
  walk_at "s"
  rcases qs with _ | ⟨q0, qs⟩
  · rw [if_pos (by simp)]
    exact k0 rfl
  rw [if_neg (by simp; omega)]
  walk_at "s"
  refine ⟨fr q0, atI_nat (j := 0) rfl, seq_mk (for_map fr (q0 :: qs) (fun Q h => h) (fun i δ => ∃ q r, δ = [some (.dat (.list ((q0 :: qs).map fr))), some (.dat (fr q)), r] ∧ q ∈ q0 :: qs ∧ ∀ j r, j < i → (q0 :: qs)[j]? = some r → r ≤ q) ⟨q0, none, rfl, List.mem_cons_self, fun j r hj => absurd hj (Nat.not_lt_zero _)⟩ ?_ ?_)⟩
  · rintro i q1 δ hi ⟨q, r, rfl, hq, hle⟩
    walk_at "d"
    refine ⟨q, q1, rfl, ho q hq, ho q1 (List.mem_of_getElem? hi), ?_⟩
    walk_at "d"
    have up : ∀ z, q ≤ z → q1 ≤ z → ∀ j r, j < i + 1 → (q0 :: qs)[j]? = some r → r ≤ z := fun z h1 h2 j r hj e => by
      by_cases hji : j = i
      · subst hji
        rw [hi] at e
        cases e
        exact h2
      · exact Rat.le_trans (hle j r (by omega) e) h1
    refine ite2 (fun c => ?_) (fun c => ?_)
    · exact ⟨q1, _, rfl, List.mem_of_getElem? hi, up q1 (by grind) Rat.le_refl⟩
    · exact ⟨q, _, rfl, hq, up q Rat.le_refl (Rat.not_lt.mp c)⟩
  · rintro δ ⟨q, r, rfl, hq, hle⟩
    walk_at "d"
    refine k q hq fun r hr' => ?_
    obtain ⟨j, hj⟩ := List.getElem?_of_mem hr'
    exact hle j r (List.getElem?_eq_some_iff.mp hj).1 hj
noncomputable def wLeast (C : Addr) : DW := fun ds Q X => ∃ qs : List Rat, ds = [.list (qs.map fr)] ∧ (∀ q ∈ qs, Ok q) ∧ (qs = [] → X C) ∧ ∀ q ∈ qs, (∀ r ∈ qs, q ≤ r) → Q (.dat (fr q))
theorem ok_least_of (T : Txt K mg A) : FnOk P w K mg base (CXE P w) 2 A.a_least_of A.d_least_of ["some"] (spW K (wLeast A.x_NoNumber)) := by
  have G_is_less := ok_is_less (P := P) (w := w) (base := base) T
  refine okW T.F_least_of sc_least_of (fun ds Q E h => ?_) (fun cdv Ar outer s H E hr => ?_)
  · obtain ⟨a, rfl, _⟩ := h; rfl
  refine ⟨_, (pss_cons (ps_if (pt_cmpR op_eq (pe_callB (lenK (K := K) rfl) rfl T.n_len PySem.boot_len (pa_cons (pv 0) pa_nil)) pe_int (nomark _)) (pss_one (ps_raise T.x_NoNumber hr.hd pass_own rfl (pa_cons pe_str pa_nil))) pss_nil)
      (pss_cons (ps_set (i := 1) sc_least_of.nd rfl (Or.inl rfl) (pe_ix (ixlK (K := K) rfl) (pv 0) pe_int (fun _ _ => rfl)))
      (pss_cons (ps_for PassesOwn.leaving rfl (pilK (K := K) rfl (pv 0)) (pg_name (i := 2) sc_least_of.nd rfl (Or.inl rfl))
        (pss_one (ps_if (pt_val (pe_call G_is_less (hr.mono (by decide)) rfl T.m_is_less T.F_is_less.kp T.b_is_less .nil passE0 (pa_cons (pv 2) (pa_cons (pv 1) pa_nil)))) (pss_one (ps_set (i := 1) sc_least_of.nd rfl (Or.inl rfl) (pv 2))) pss_nil)))
      (pss_one (ps_ret (pv 1)))))), _, (sv_seq (sv_if (tv_test (bv_ev (ev_op ro_eq (bv_ev (ev_cb rb_len (av_cons (bv_var 0) av_nil))) (bv_ev ev_int)))) (sv_raise (ae_cons ev_str ae_nil) (by decide)) sv_next)
      (sv_seq (sv_asg (ev_ixl (lv_var 0) (bv_ev ev_int)) (gv_name 1))
      (sv_seq (sv_for (is_list (ev_var 0)) (gv_name 2)
        (sv_if (tv_b (bv_ev (ev_call0 (av_cons (bv_var 2) (av_cons (bv_var 1) av_nil))))) (sv_asg (ev_var 2) (gv_name 1)) sv_next))
      (sv_retV 1)))), ?_⟩
  rintro ds Q X ⟨qs, rfl, ho, k0, k⟩
  walk_at "s"
  rcases qs with _ | ⟨q0, qs⟩
  · rw [if_pos (by simp)]
    exact k0 rfl
  rw [if_neg (by simp; omega)]
  walk_at "s"
  refine ⟨fr q0, atI_nat (j := 0) rfl, seq_mk (for_map fr (q0 :: qs) (fun Q h => h) (fun i δ => ∃ q r, δ = [some (.dat (.list ((q0 :: qs).map fr))), some (.dat (fr q)), r] ∧ q ∈ q0 :: qs ∧ ∀ j r, j < i → (q0 :: qs)[j]? = some r → q ≤ r) ⟨q0, none, rfl, List.mem_cons_self, fun j r hj => absurd hj (Nat.not_lt_zero _)⟩ ?_ ?_)⟩
  · rintro i q1 δ hi ⟨q, r, rfl, hq, hle⟩
    walk_at "d"
    refine ⟨q1, q, rfl, ho q1 (List.mem_of_getElem? hi), ho q hq, ?_⟩
    walk_at "d"
    have up : ∀ z, z ≤ q → z ≤ q1 → ∀ j r, j < i + 1 → (q0 :: qs)[j]? = some r → z ≤ r := fun z h1 h2 j r hj e => by
      by_cases hji : j = i
      · subst hji
        rw [hi] at e
        cases e
        exact h2
      · exact Rat.le_trans h1 (hle j r (by omega) e)
    refine ite2 (fun c => ?_) (fun c => ?_)
    · exact ⟨q1, _, rfl, List.mem_of_getElem? hi, up q1 (by grind) Rat.le_refl⟩
    · exact ⟨q, _, rfl, hq, up q Rat.le_refl (Rat.not_lt.mp c)⟩
  · rintro δ ⟨q, r, rfl, hq, hle⟩
    walk_at "d"
    refine k q hq fun r hr' => ?_
    obtain ⟨j, hj⟩ := List.getElem?_of_mem hr'
    exact hle j r (List.getElem?_eq_some_iff.mp hj).1 hj
end
noncomputable def tot : List Rat → Rat
  | [] => 0
  | q :: qs => q + tot qs
theorem tot_app : ∀ (a b : List Rat), tot (a ++ b) = tot a + tot b
  | [], b => by simp [tot, Rat.zero_add]
  | q :: a, b => by
    show q + tot (a ++ b) = q + tot a + tot b
    rw [tot_app a b, Rat.add_assoc]
theorem tot_snoc (qs : List Rat) (q : Rat) : tot (qs ++ [q]) = tot qs + q := by
  rw [tot_app]
  simp [tot, Rat.add_zero]
theorem take_snoc {α : Type} {xs : List α} {i : Nat} {x : α} (h : xs[i]? = some x) : xs.take (i + 1) = xs.take i ++ [x] := by
  rw [List.take_add_one, h]; rfl
section
variable {P : Program} {w : World} {K : PySem.W.Frag} {mg : Str → Option Value} {base : Heap} {A : Adr}
noncomputable def wTotal : DW := fun ds Q _ => ∃ qs : List Rat, ds = [.list (qs.map fr)] ∧ (∀ q ∈ qs, Ok q) ∧ (∀ i, Ok (tot (qs.take i))) ∧ Q (.dat (fr (tot qs)))
theorem ok_total_of (T : Txt K mg A) : FnOk P w K mg base (CXE P w) 3 A.a_total_of A.d_total_of ["some"] (spW K wTotal) := by
  have G_plus := ok_plus (P := P) (w := w) (base := base) T
  refine okW T.F_total_of sc_total_of (fun ds Q E h => ?_) (fun cdv Ar outer s H E hr => ?_)
  · obtain ⟨a, rfl, _⟩ := h; rfl
  refine ⟨_, (pss_cons (ps_set (i := 1) sc_total_of.nd rfl (Or.inl rfl) (pe_glob rfl T.c_NOUGHT (show RelV (.ref _) (.ref _) from rfl)))
      (pss_cons (ps_for PassesOwn.leaving rfl (pilK (K := K) rfl (pv 0)) (pg_name (i := 2) sc_total_of.nd rfl (Or.inl rfl))
        (pss_one (ps_set (i := 1) sc_total_of.nd rfl (Or.inl rfl) (pe_call G_plus (hr.mono (by decide)) rfl T.m_plus T.F_plus.kp T.b_plus .nil passE0 (pa_cons (pv 1) (pa_cons (pv 2) pa_nil))))))
      (pss_one (ps_ret (pv 1))))), _, (sv_seq (sv_asg (ev_c T.k_NOUGHT) (gv_name 1))
      (sv_seq (sv_for (is_list (ev_var 0)) (gv_name 2)
        (sv_asg (ev_call0 (av_cons (bv_var 1) (av_cons (bv_var 2) av_nil))) (gv_name 1)))
      (sv_retV 1))), ?_⟩
  rintro ds Q X ⟨qs, rfl, ho, ht, k⟩
  walk_at "s"
  refine ?_
  refine seq_mk (for_map fr qs (fun Q h => h) (fun i δ => ∃ r, δ = [some (.dat (.list (qs.map fr))), some (.dat (fr (tot (qs.take i)))), r]) ⟨none, rfl⟩ ?_ ?_)
  · rintro i q δ hi ⟨r, rfl⟩
    walk_at "d"
    refine ⟨_, q, rfl, ht i, ho q (List.mem_of_getElem? hi), ?_⟩
    walk_at "d"
    exact ⟨_, by rw [take_snoc hi, tot_snoc]⟩
  · rintro δ ⟨r, rfl⟩
    walk_at "d"
    rw [List.take_of_length_le (Nat.le_refl _)]
    exact k
end
theorem flat_single {α β : Type} (f : α → β) : ∀ xs : List α, xs.flatMap (fun x => [f x]) = xs.map f
  | [] => rfl
  | x :: xs => by simp [flat_single f xs]
noncomputable abbrev Mk := Rat × Rat × Int
noncomputable abbrev mk3 (m : Mk) : PyData := .tuple [fr m.1, fr m.2.1, .int m.2.2]
noncomputable def eMark : Enc Mk where
  d := mk3
  dep := 2
  small := by decide
  lay := fun m => by simp [PyData.canLay0, PyData.canLayAll0]
  depth := fun m => by simp [PyData.depth, PyData.depthAll]
  eqv := fun p q => by
    have h1 := eRat.eqv p.1 q.1
    have h2 := eRat.eqv p.2.1 q.2.1
    have e1 : PyData.eqv (fr p.1) (fr q.1) = PyData.eqv (eRat.d p.1) (eRat.d q.1) := rfl
    have e2 : PyData.eqv (fr p.2.1) (fr q.2.1) = PyData.eqv (eRat.d p.2.1) (eRat.d q.2.1) := rfl
    show PyData.eqvAll [fr p.1, fr p.2.1, .int p.2.2] [fr q.1, fr q.2.1, .int q.2.2] = true ↔ p = q
    rw [PyData.eqvAll, PyData.eqvAll, PyData.eqvAll, e1, e2]
    simp only [Bool.and_eq_true, h1, h2, PyData.eqv, PyData.eqvAll, beq_iff_eq, and_true]
    constructor
    · rintro ⟨a, b, c⟩
      exact Prod.ext a (Prod.ext b c)
    · rintro rfl
      exact ⟨rfl, rfl, rfl⟩
theorem mks_flat : ∀ ms : List Mk, flatDs (ms.map mk3) = true
  | [] => rfl
  | m :: ms => by
    have := mks_flat ms
    simp only [List.map_cons, flatDs, flatD, this, Bool.and_self]
noncomputable def Bg (n : Nat) (v : Int) : Prop := v.natAbs < 2 ^ n
theorem Bg.bits {n : Nat} {v : Int} (h : Bg n v) : Builtin.Int.intBits v ≤ n := bits_lt h
theorem Bg.of {n : Nat} {v : Int} (h : Builtin.Int.intBits v ≤ n) : Bg (n + 1) v := by
  unfold Bg
  by_cases h0 : v = 0
  · subst h0; exact Nat.two_pow_pos _
  · unfold Builtin.Int.intBits at h
    rw [if_neg (by simpa using h0)] at h
    exact (Nat.log2_lt (by omega)).mp (by omega)
theorem Bg.add {n : Nat} {a b : Int} (ha : Bg n a) (hb : Bg n b) : Bg (n + 1) (a + b) := by
  unfold Bg at *
  rw [Nat.pow_succ]
  have := Int.natAbs_add_le a b
  omega
theorem Bg.small {n : Nat} {a : Int} (h : a.natAbs < 2 ^ 64) (hn : 64 ≤ n) : Bg n a := Nat.lt_of_lt_of_le h (Nat.pow_le_pow_right (by decide) hn)
open Fm
theorem dgOk {n : Nat} {q : Rat} (h : Dg n q) (l : n ≤ 2400) : Ok q := okS (h.mono l) (by decide +kernel)
theorem tenWee {n : Nat} {i : Int} (h : i.natAbs ≤ 10 ^ n) (l : n ≤ 2400) : Wee i := weeLe (Nat.le_trans h (ten_le l)) (by decide +kernel)
theorem pairD_map {α β : Type} (f : α → PyData) (g : β → PyData) : ∀ (xs : List α) (ys : List β), pairD (xs.map f) (ys.map g) = (xs.zip ys).map fun p => PyData.tuple [f p.1, g p.2]
  | [], _ => by simp [Dl.pairD]
  | x :: xs, [] => by simp [Dl.pairD]
  | x :: xs, y :: ys => by
    have := pairD_map f g xs ys
    simp [Dl.pairD, this]
theorem zip_map {α β γ : Type} (f : α → β → γ) : ∀ (xs : List α) (ys : List β), ((xs.zip ys).map fun p => f p.1 p.2) = List.zipWith f xs ys
  | [], _ => by simp
  | x :: xs, [] => by simp
  | x :: xs, y :: ys => by simp [zip_map f xs ys]
theorem zip_all {α β : Type} {p : α → Prop} {q : β → Prop} : ∀ {xs : List α} {ys : List β}, (∀ x ∈ xs, p x) → (∀ y ∈ ys, q y) → ∀ z ∈ xs.zip ys, p z.1 ∧ q z.2 := fun {xs ys} h1 h2 z hz => by
  have := List.of_mem_zip (a := z.1) (b := z.2) hz
  exact ⟨h1 _ this.1, h2 _ this.2⟩
theorem zipWith_all {α β γ : Type} {f : α → β → γ} {p : α → Prop} {q : β → Prop} {r : γ → Prop} {xs : List α} {ys : List β} (h1 : ∀ x ∈ xs, p x) (h2 : ∀ y ∈ ys, q y) (h : ∀ x y, p x → q y → r (f x y)) : ∀ z ∈ List.zipWith f xs ys, r z := fun z hz => by
  rw [← zip_map] at hz
  obtain ⟨w, hw, rfl⟩ := List.mem_map.mp hz
  have := zip_all h1 h2 w hw
  exact h _ _ this.1 this.2
noncomputable def missR (ms : List Mk) (row : List Rat) : List Rat := List.zipWith (fun (m : Mk) h => m.2.1 - h) ms row
noncomputable def wmissR (ms : List Mk) (row : List Rat) : List Rat := List.zipWith (fun (m : Mk) x => (m.2.2 : Rat) * x) ms (missR ms row)
noncomputable def sqR (ms : List Mk) (row : List Rat) : List Rat := List.zipWith (fun a b => a * b) (wmissR ms row) (missR ms row)
noncomputable def maxR : List Rat → Rat
  | [] => 0
  | x :: xs => if maxR xs < x then x else maxR xs
theorem maxR_nn : ∀ xs : List Rat, 0 ≤ maxR xs
  | [] => Rat.le_refl
  | x :: xs => by
    have := maxR_nn xs
    unfold maxR
    split
    · grind
    · exact this
theorem maxR_le : ∀ {xs : List Rat}, ∀ x ∈ xs, x ≤ maxR xs
  | y :: xs, x, h => by
    have ih := @maxR_le xs
    unfold maxR
    rcases List.mem_cons.mp h with rfl | h
    · split
      · exact Rat.le_refl
      · exact Rat.not_lt.mp ‹_›
    · have := ih x h
      split
      · grind
      · exact this
theorem maxR_mem : ∀ {xs : List Rat}, maxR xs = 0 ∨ maxR xs ∈ xs
  | [] => .inl rfl
  | x :: xs => by
    unfold maxR
    split
    · exact .inr List.mem_cons_self
    · rcases @maxR_mem xs with h | h
      · exact .inl h
      · exact .inr (List.mem_cons_of_mem _ h)
theorem maxR_eq {xs : List Rat} {m : Rat} (h0 : 0 ≤ m) (h1 : m = 0 ∨ m ∈ xs) (h2 : ∀ x ∈ xs, x ≤ m) : m = maxR xs := by
  refine Rat.le_antisymm ?_ ?_
  · rcases h1 with rfl | h1
    · exact maxR_nn xs
    · exact maxR_le m h1
  · rcases @maxR_mem xs with h | h
    · rw [h]; exact h0
    · exact h2 _ h
noncomputable def meas (kd : Str) (ms : List Mk) (row : List Rat) : Rat := if kd = "far" then maxR ((missR ms row).map absR) else if kd = "sum" then tot ((wmissR ms row).map absR) else tot (sqR ms row)
theorem Cm.tot {L B : Nat} : ∀ {qs : List Rat}, (∀ q ∈ qs, Cm L B q) → Cm L (qs.length * B) (tot qs)
  | [], _ => Cm.zero
  | q :: qs, h => by
    have h1 := h q List.mem_cons_self
    have h2 := Cm.tot (qs := qs) fun x hx => h x (List.mem_cons_of_mem _ hx)
    exact (h1.add h2).mono (Nat.dvd_refl _) (by rw [List.length_cons, Nat.add_mul]; omega)
theorem two_ten {B b : Nat} (h : B ≤ 10 ^ b) : B + B ≤ 10 ^ (b + 1) := by rw [Nat.pow_succ]; omega
theorem mul_ten {B b C c : Nat} (h : B ≤ 10 ^ b) (h2 : C ≤ 10 ^ c) : B * C ≤ 10 ^ (b + c) := by rw [Nat.pow_add]; exact Nat.mul_le_mul h h2
theorem sixty_ten {n B b : Nat} (hn : n ≤ 60) (h : B ≤ 10 ^ b) : n * B ≤ 10 ^ (b + 2) := by
  have : n * B ≤ 60 * 10 ^ b := Nat.mul_le_mul hn h
  rw [Nat.pow_add]
  omega
structure MSz (L B W l b wd : Nat) (ms : List Mk) (row : List Rat) : Prop where
  len : ms.length ≤ 60
  pos : 0 < L
  pL : L ≤ 10 ^ l
  pB : B ≤ 10 ^ b
  pW : W ≤ 10 ^ wd
  h : ∀ m ∈ ms, Cm L B m.2.1
  r : ∀ q ∈ row, Cm L B q
  w : ∀ m ∈ ms, m.2.2.natAbs ≤ W
  fit : 2 * l + 2 * b + wd + 6 ≤ 2400
section
variable {L B W l b wd : Nat} {ms : List Mk} {row : List Rat}
theorem MSz.miss (z : MSz L B W l b wd ms row) : ∀ x ∈ missR ms row, Cm L (B + B) x := zipWith_all z.h z.r fun _ _ h1 h2 => h1.sub h2
theorem MSz.wmiss (z : MSz L B W l b wd ms row) : ∀ x ∈ wmissR ms row, Cm L (W * (B + B)) x := zipWith_all z.w z.miss fun _ _ h1 h2 => ((Cm.int h1).mul h2).mono (by rw [Nat.one_mul]; exact Nat.dvd_refl _) (Nat.le_refl _)
theorem MSz.sq (z : MSz L B W l b wd ms row) : ∀ x ∈ sqR ms row, Cm (L * L) (W * (B + B) * (B + B)) x := zipWith_all z.wmiss z.miss fun _ _ h1 h2 => h1.mul h2
theorem MSz.missOk (z : MSz L B W l b wd ms row) : ∀ x ∈ missR ms row, Ok x := fun x hx => dgOk ((z.miss x hx).dg z.pos z.pL (two_ten z.pB)) (by have := z.fit; omega)
theorem MSz.wmissOk (z : MSz L B W l b wd ms row) : ∀ x ∈ wmissR ms row, Ok x := fun x hx => dgOk ((z.wmiss x hx).dg z.pos z.pL (mul_ten z.pW (two_ten z.pB))) (by have := z.fit; omega)
theorem MSz.sqOk (z : MSz L B W l b wd ms row) : ∀ x ∈ sqR ms row, Ok x := fun x hx => dgOk ((z.sq x hx).dg (Nat.mul_pos z.pos z.pos) (mul_ten z.pL z.pL) (mul_ten (mul_ten z.pW (two_ten z.pB)) (two_ten z.pB))) (by have := z.fit; omega)
theorem wmissR_len : (wmissR ms row).length ≤ ms.length := by unfold wmissR; rw [List.length_zipWith]; omega
theorem sqR_len : (sqR ms row).length ≤ ms.length := by unfold sqR; rw [List.length_zipWith]; have := wmissR_len (ms := ms) (row := row); omega
theorem MSz.sumOk (z : MSz L B W l b wd ms row) (i : Nat) : Ok (tot (((wmissR ms row).map absR).take i)) := by
  have h := Cm.tot (qs := ((wmissR ms row).map absR).take i) (L := L) (B := W * (B + B)) fun q hq => by
    obtain ⟨x, hx, rfl⟩ := List.mem_map.mp (List.mem_of_mem_take hq)
    exact (z.wmiss x hx).abs
  have hl : (((wmissR ms row).map absR).take i).length ≤ 60 := by
    rw [List.length_take, List.length_map]; have := wmissR_len (ms := ms) (row := row); have := z.len; omega
  exact dgOk (h.dg z.pos z.pL (sixty_ten hl (mul_ten z.pW (two_ten z.pB)))) (by have := z.fit; omega)
theorem MSz.sqsOk (z : MSz L B W l b wd ms row) (i : Nat) : Ok (tot ((sqR ms row).take i)) := by
  have h := Cm.tot (qs := (sqR ms row).take i) (L := L * L) (B := W * (B + B) * (B + B)) fun q hq => z.sq q (List.mem_of_mem_take hq)
  have hl : ((sqR ms row).take i).length ≤ 60 := by
    rw [List.length_take]; have := sqR_len (ms := ms) (row := row); have := z.len; omega
  exact dgOk (h.dg (Nat.mul_pos z.pos z.pos) (mul_ten z.pL z.pL) (sixty_ten hl (mul_ten (mul_ten z.pW (two_ten z.pB)) (two_ten z.pB)))) (by have := z.fit; omega)
theorem MSz.hOk (z : MSz L B W l b wd ms row) : ∀ m ∈ ms, Ok m.2.1 := fun m hm => dgOk ((z.h m hm).dg z.pos z.pL z.pB) (by have := z.fit; omega)
theorem MSz.rOk (z : MSz L B W l b wd ms row) : ∀ q ∈ row, Ok q := fun m hm => dgOk ((z.r m hm).dg z.pos z.pL z.pB) (by have := z.fit; omega)
theorem MSz.wOk (z : MSz L B W l b wd ms row) {m : Mk} (hm : m ∈ ms) : Ok (m.2.2 : Rat) := ⟨tenWee (Nat.le_trans (z.w m hm) z.pW) (by have := z.fit; omega), show Wee ((1 : Nat) : Int) from wee (by decide +kernel)⟩
end
section
variable {P : Program} {w : World} {K : PySem.W.Frag} {mg : Str → Option Value} {base : Heap} {A : Adr}
noncomputable def wSize : DW := fun ds Q _ => ∃ q : Rat, ds = [fr q] ∧ Q (.dat (fr (absR q)))
theorem ok_size_of (T : Txt K mg A) : FnOk P w K mg base (CXE P w) 1 A.a_size_of A.d_size_of ["one"] (spW K wSize) := by
  refine okW T.F_size_of sc_size_of (fun ds Q E h => ?_) (fun cdv Ar outer s H E hr => ?_)
  · obtain ⟨_, rfl, _⟩ := h; rfl
  refine ⟨_, (pss_one (ps_ret (pe_tup (pa_cons (pe_callB call_abs rfl T.n_abs bt_abs (pa_cons (pe_ix (ixtK (K := K) rfl) (pv 0) pe_int (fun _ _ => rfl)) pa_nil)) (pa_cons (pe_ix (ixtK (K := K) rfl) (pv 0) pe_int (fun _ _ => rfl)) pa_nil))))), _, (sv_ret (bv_ev (ev_tup (ae_cons (ev_cb rb_abs (av_cons (bv_ev (ev_ixk 0 (ev_var 0))) av_nil)) (ae_cons (ev_ixk 1 (ev_var 0)) ae_nil)) (by decide)))), ?_⟩
  rintro ds Q X ⟨q, rfl, k⟩
  walk_at "d"
  rw [Fm.abs_if]
  exact k
noncomputable def wMisses : DW := fun ds Q _ => ∃ (ms : List Mk) (row : List Rat), ds = [.list (ms.map mk3), .list (row.map fr)] ∧ ms.length ≤ 1000 ∧ (∀ m ∈ ms, Ok m.2.1) ∧ (∀ q ∈ row, Ok q) ∧ Q (.own ((missR ms row).map fr))
theorem ok_misses_of (T : Txt K mg A) : FnOk P w K mg base (CXE P w) 4 A.a_misses_of A.d_misses_of ["marks", "row"] (spW K wMisses) := by
  have G_minus := ok_minus (P := P) (w := w) (base := base) T
  refine okW T.F_misses_of sc_misses_of (fun ds Q E h => ?_) (fun cdv Ar outer s H E hr => ?_)
  · obtain ⟨_, _, rfl, _⟩ := h; rfl
  refine ⟨_, (pss_one (ps_ret (pe_lc (cap := [none, none]) (NC := ["mark", "height"]) rfl ⟨rfl, rfl, by decide +kernel, by decide +kernel, trivial, (fun _ h => nomatch h), rfl⟩ (pi_zip (K := K) rfl rfl T.n_zip (pa_cons (pv 0) (pa_cons (pv 1) pa_nil))) (fun _ _ _ _ => (pgtK (K := K) (n := 2) rfl rfl (pgs_cons (pg_name (i := 0) (show List.Nodup (["mark", "height"] : List Str) by decide) rfl (Or.inl rfl)) (pgs_cons (pg_name (i := 1) (show List.Nodup (["mark", "height"] : List Str) by decide) rfl (Or.inl rfl)) pgs_nil)))) (fun _ _ _ _ => pts_nil) (fun _ _ _ _ => (pe_call G_minus (hr.mono (by decide)) rfl T.m_minus T.F_minus.kp T.b_minus .nil passE0 (pa_cons (pe_ix (ixtK (K := K) rfl) (pv 0) pe_int (fun _ _ => rfl)) (pa_cons (pv 1) pa_nil))))))), _, (sv_retO (ov_lc (ie_zip (lv_var 0) (lv_var 1)) (gv_tup (gs_cons (gv_name 0) (gs_cons (gv_name 1) gs_nil))) tv_yes (ev_call0 (av_cons (bv_ev (ev_ixk 1 (ev_var 0))) (av_cons (bv_var 1) av_nil))) (by decide) (by decide))), ?_⟩
  rintro ds Q X ⟨ms, row, rfl, hl, hm, hr', k⟩
  walk_at "d"
  refine lc_map (fun p : Mk × Rat => PyData.tuple [mk3 p.1, fr p.2]) fr (fun p : Mk × Rat => [p.1.2.1 - p.2]) (ms.zip row) (by rw [List.length_zip]; omega) (fun Q h => by
      walk_at "d"
      rw [pairD_map]; exact h) (fun p hp N acc hN => ?_) ?_
  · have := zip_all hm hr' p hp
    walk_at "d"
    refine ⟨p.1.2.1, p.2, rfl, this.1, this.2, ?_⟩
    walk_at "d"
    exact hN
  · rw [flat_single, zip_map (fun (m : Mk) h => m.2.1 - h)]
    exact k
noncomputable def wWeighed : DW := fun ds Q _ => ∃ (ms : List Mk) (row : List Rat) (L B W l b wd : Nat), ds = [.list (ms.map mk3), .list (row.map fr)] ∧ MSz L B W l b wd ms row ∧ Q (.own ((wmissR ms row).map fr))
theorem ok_weighed_misses (T : Txt K mg A) : FnOk P w K mg base (CXE P w) 5 A.a_weighed_misses A.d_weighed_misses ["marks", "row"] (spW K wWeighed) := by
  have G_product := ok_product (P := P) (w := w) (base := base) T
  have G_misses_of := ok_misses_of (P := P) (w := w) (base := base) T
  refine okW T.F_weighed_misses sc_weighed_misses (fun ds Q E h => ?_) (fun cdv Ar outer s H E hr => ?_)
  · obtain ⟨_, _, _, _, _, _, _, _, rfl, _⟩ := h; rfl
  refine ⟨_, (pss_one (ps_ret (pe_lc (cap := [none, none]) (NC := ["mark", "miss"]) rfl ⟨rfl, rfl, by decide +kernel, by decide +kernel, trivial, (fun _ h => nomatch h), rfl⟩ (pi_zip (K := K) rfl rfl T.n_zip (pa_cons (pv 0) (pa_cons (pe_call G_misses_of (hr.mono (by decide)) rfl T.m_misses_of T.F_misses_of.kp T.b_misses_of .nil passE0 (pa_cons (pv 0) (pa_cons (pv 1) pa_nil))) pa_nil))) (fun _ _ _ _ => (pgtK (K := K) (n := 2) rfl rfl (pgs_cons (pg_name (i := 0) (show List.Nodup (["mark", "miss"] : List Str) by decide) rfl (Or.inl rfl)) (pgs_cons (pg_name (i := 1) (show List.Nodup (["mark", "miss"] : List Str) by decide) rfl (Or.inl rfl)) pgs_nil)))) (fun _ _ _ _ => pts_nil) (fun _ _ _ _ => (pe_call G_product (hr.mono (by decide)) rfl T.m_product T.F_product.kp T.b_product .nil passE0 (pa_cons (pe_tup (pa_cons (pe_ix (ixtK (K := K) rfl) (pv 0) pe_int (fun _ _ => rfl)) (pa_cons pe_int pa_nil))) (pa_cons (pv 1) pa_nil))))))), _, (sv_retO (ov_lc (ie_zip (lv_var 0) (lv_ov (ov_call0 (av_cons (bv_var 0) (av_cons (bv_var 1) av_nil))))) (gv_tup (gs_cons (gv_name 0) (gs_cons (gv_name 1) gs_nil))) tv_yes (ev_call0 (av_cons (bv_ev (ev_tup (ae_cons (ev_ixk 2 (ev_var 0)) (ae_cons ev_int ae_nil)) (by decide))) (av_cons (bv_var 1) av_nil))) (by decide) (by decide))), ?_⟩
  rintro ds Q X ⟨ms, row, L, B, W, l, b, wd, rfl, z, k⟩
  walk_at "d"
  refine lc_map (fun p : Mk × Rat => PyData.tuple [mk3 p.1, fr p.2]) fr (fun p : Mk × Rat => [(p.1.2.2 : Rat) * p.2]) (ms.zip (missR ms row)) (by rw [List.length_zip]; have := z.len; omega) (fun Q h => by
      walk_at "d"
      refine ⟨ms, row, rfl, by have := z.len; omega, z.hOk, z.rOk, ?_⟩
      walk_at "d"
      refine ⟨frs_flat _, ?_⟩
      rw [pairD_map]; exact h) (fun p hp N acc hN => ?_) ?_
  · have := zip_all (p := fun m => m ∈ ms) (fun _ h => h) z.missOk p hp
    walk_at "d"
    refine ⟨(p.1.2.2 : Rat), p.2, rfl, z.wOk this.1, this.2, ?_⟩
    walk_at "d"
    exact hN
  · rw [flat_single, zip_map (fun (m : Mk) x => (m.2.2 : Rat) * x)]
    exact k
noncomputable def kdsL : List Str := ["far", "sum", "square"]
noncomputable def kdsS : List { x : Str // PyData.strOk x = true } := [⟨"far", by decide +kernel⟩, ⟨"sum", by decide +kernel⟩, ⟨"square", by decide +kernel⟩]
theorem kds_mem {kd : Str} (h : PyData.strOk kd = true) : (⟨kd, h⟩ : { x : Str // PyData.strOk x = true }) ∈ kdsS ↔ kd ∈ kdsL := by
  simp [kdsS, kdsL, Subtype.ext_iff]
noncomputable def wCheck (C : Addr) : DW := fun ds Q X => ∃ d : PyData, ds = [d] ∧ (∀ kd : Str, d = .str kd → PyData.strOk kd = true) ∧ ((∃ kd : Str, d = .str kd ∧ kd ∈ kdsL) → Q (.dat .none)) ∧ ((∀ kd : Str, d = .str kd → kd ∉ kdsL) → X C)
theorem ok_check_kind (T : Txt K mg A) : FnOk P w K mg base (CXE P w) 1 A.a_check_kind A.d_check_kind ["kind"] (spW K (wCheck A.x_NoKind)) := by
  refine okW T.F_check_kind sc_check_kind (fun ds Q E h => ?_) (fun cdv Ar outer s H E hr => ?_)
  · obtain ⟨_, rfl, _⟩ := h; rfl
  refine ⟨_, (pss_one (ps_if (PW.pt (pw_or (pt_not (pt_val (pe_callB (isiDK (K := K) rfl) rfl T.n_isinstance bt_isinstance (pa_cons (pv 0) (pa_cons (pe_bltn rfl T.n_str bt_str (show RelV (.ty "str") (.type "str") from rfl)) pa_nil))))) (pw_or1 (pt_cmpR (notInTK (K := K) rfl hr.units) (pv 0) (pe_glob rfl T.c_KINDS (show RelV (.ref _) (.ref _) from rfl)) rfl)))) (pss_one (ps_raise T.x_NoKind hr.hd pass_own rfl (pa_cons pe_str pa_nil))) pss_nil)), _, (sv_if (tv_or (tv_not (tv_b (bv_ev (ev_isi (by decide) (bv_var 0))))) (tv_test (bv_ev (ev_op ro_notInT (bv_var 0) (bv_ev (ev_c T.k_KINDS)))))) (sv_raise (ae_cons ev_str ae_nil) (by decide)) sv_next), ?_⟩
  rintro ds Q X ⟨d, rfl, ok, k1, k2⟩
  have no : (∀ kd : Str, d ≠ .str kd) → X A.x_NoKind := fun h => k2 fun kd e => absurd e (h kd)
  cases d with
  | str kd =>
    walk_at "d"
    refine ⟨_, eStr, ⟨kd, ok kd rfl⟩, kdsS, rfl, rfl, fun b hb => ?_⟩
    rw [kds_mem] at hb
    cases b with
    | true =>
      walk_at "d"
      exact k1 ⟨kd, rfl, hb.mp rfl⟩
    | false =>
      walk_at "d"
      refine k2 fun kd' e h => ?_
      cases e
      exact absurd (hb.mpr h) (by decide)
  | _ => exact no fun _ => by simp
noncomputable def wMeas (C : Addr) : DW := fun ds Q X => ∃ (d : PyData) (ms : List Mk) (row : List Rat) (L B W l b wd : Nat), ds = [d, .list (ms.map mk3), .list (row.map fr)] ∧ MSz L B W l b wd ms row ∧ ms ≠ [] ∧ row.length = ms.length ∧ (∀ kd : Str, d = .str kd → PyData.strOk kd = true) ∧
  (∀ kd : Str, d = .str kd → kd ∈ kdsL → Q (.dat (fr (meas kd ms row)))) ∧ ((∀ kd : Str, d = .str kd → kd ∉ kdsL) → X C)
theorem ok_measured (T : Txt K mg A) : FnOk P w K mg base (CXE P w) 6 A.a_measured A.d_measured ["kind", "marks", "row"] (spW K (wMeas A.x_NoKind)) := by
  have G_check_kind := ok_check_kind (P := P) (w := w) (base := base) T
  have G_misses_of := ok_misses_of (P := P) (w := w) (base := base) T
  have G_weighed_misses := ok_weighed_misses (P := P) (w := w) (base := base) T
  have G_greatest_of := ok_greatest_of (P := P) (w := w) (base := base) T
  have G_total_of := ok_total_of (P := P) (w := w) (base := base) T
  have G_size_of := ok_size_of (P := P) (w := w) (base := base) T
  have G_product := ok_product (P := P) (w := w) (base := base) T
  refine okW T.F_measured sc_measured (fun ds Q E h => ?_) (fun cdv Ar outer s H E hr => ?_)
  · obtain ⟨_, _, _, _, _, _, _, _, _, rfl, _⟩ := h; rfl
  refine ⟨_, (pss_cons (ps_expr (pe_call G_check_kind (hr.mono (by decide)) rfl T.m_check_kind T.F_check_kind.kp T.b_check_kind .nil pass_own (pa_cons (pv 0) pa_nil)))
      (pss_cons (ps_set (i := 3) sc_measured.nd rfl (Or.inl rfl) (pe_call G_misses_of (hr.mono (by decide)) rfl T.m_misses_of T.F_misses_of.kp T.b_misses_of .nil passE0 (pa_cons (pv 1) (pa_cons (pv 2) pa_nil))))
      (pss_cons (ps_if (pt_cmpR op_eq (pv 0) pe_str (nomark _)) (pss_one (ps_ret (pe_call G_greatest_of (hr.mono (by decide)) rfl T.m_greatest_of T.F_greatest_of.kp T.b_greatest_of .nil passE0 (pa_cons (pe_lc (cap := [none]) (NC := ["miss"]) rfl ⟨rfl, rfl, by decide +kernel, by decide +kernel, trivial, (fun _ h => nomatch h), rfl⟩ (pilK (K := K) rfl (pv 3)) (fun _ _ _ _ => (pg_name (i := 0) (show List.Nodup (["miss"] : List Str) by decide) rfl (Or.inl rfl))) (fun _ _ _ _ => pts_nil) (fun _ _ _ _ => (pe_call G_size_of (hr.mono (by decide)) rfl T.m_size_of T.F_size_of.kp T.b_size_of .nil passE0 (pa_cons (pv 0) pa_nil)))) pa_nil)))) pss_nil)
      (pss_cons (ps_set (i := 4) sc_measured.nd rfl (Or.inl rfl) (pe_call G_weighed_misses (hr.mono (by decide)) rfl T.m_weighed_misses T.F_weighed_misses.kp T.b_weighed_misses .nil passE0 (pa_cons (pv 1) (pa_cons (pv 2) pa_nil))))
      (pss_cons (ps_if (pt_cmpR op_eq (pv 0) pe_str (nomark _)) (pss_one (ps_ret (pe_call G_total_of (hr.mono (by decide)) rfl T.m_total_of T.F_total_of.kp T.b_total_of .nil passE0 (pa_cons (pe_lc (cap := [none]) (NC := ["one"]) rfl ⟨rfl, rfl, by decide +kernel, by decide +kernel, trivial, (fun _ h => nomatch h), rfl⟩ (pilK (K := K) rfl (pv 4)) (fun _ _ _ _ => (pg_name (i := 0) (show List.Nodup (["one"] : List Str) by decide) rfl (Or.inl rfl))) (fun _ _ _ _ => pts_nil) (fun _ _ _ _ => (pe_call G_size_of (hr.mono (by decide)) rfl T.m_size_of T.F_size_of.kp T.b_size_of .nil passE0 (pa_cons (pv 0) pa_nil)))) pa_nil)))) pss_nil)
      (pss_one (ps_ret (pe_call G_total_of (hr.mono (by decide)) rfl T.m_total_of T.F_total_of.kp T.b_total_of .nil passE0 (pa_cons (pe_lc (cap := [none, none]) (NC := ["one", "miss"]) rfl ⟨rfl, rfl, by decide +kernel, by decide +kernel, trivial, (fun _ h => nomatch h), rfl⟩ (pi_zip (K := K) rfl rfl T.n_zip (pa_cons (pv 4) (pa_cons (pv 3) pa_nil))) (fun _ _ _ _ => (pgtK (K := K) (n := 2) rfl rfl (pgs_cons (pg_name (i := 0) (show List.Nodup (["one", "miss"] : List Str) by decide) rfl (Or.inl rfl)) (pgs_cons (pg_name (i := 1) (show List.Nodup (["one", "miss"] : List Str) by decide) rfl (Or.inl rfl)) pgs_nil)))) (fun _ _ _ _ => pts_nil) (fun _ _ _ _ => (pe_call G_product (hr.mono (by decide)) rfl T.m_product T.F_product.kp T.b_product .nil passE0 (pa_cons (pv 0) (pa_cons (pv 1) pa_nil))))) pa_nil))))))))), _, (sv_seq (sv_expr (bv_ev (ev_call (av_cons (bv_var 0) av_nil))))
      (sv_seq (sv_setO 3 (ov_call0 (av_cons (bv_var 1) (av_cons (bv_var 2) av_nil))))
      (sv_seq (sv_if (tv_test (bv_ev (ev_op ro_eq (bv_var 0) (bv_ev ev_str)))) (sv_ret (bv_ev (ev_call0 (av_cons (bv_ev (ev_ov (ov_lc (ie_list (lv_var 3)) (gv_name 0) tv_yes (ev_call0 (av_cons (bv_var 0) av_nil)) (by decide) (by decide)))) av_nil)))) sv_next)
      (sv_seq (sv_setO 4 (ov_call0 (av_cons (bv_var 1) (av_cons (bv_var 2) av_nil))))
      (sv_seq (sv_if (tv_test (bv_ev (ev_op ro_eq (bv_var 0) (bv_ev ev_str)))) (sv_ret (bv_ev (ev_call0 (av_cons (bv_ev (ev_ov (ov_lc (ie_list (lv_var 4)) (gv_name 0) tv_yes (ev_call0 (av_cons (bv_var 0) av_nil)) (by decide) (by decide)))) av_nil)))) sv_next)
      (sv_ret (bv_ev (ev_call0 (av_cons (bv_ev (ev_ov (ov_lc (ie_zip (lv_var 4) (lv_var 3)) (gv_tup (gs_cons (gv_name 0) (gs_cons (gv_name 1) gs_nil))) tv_yes (ev_call0 (av_cons (bv_var 0) (av_cons (bv_var 1) av_nil))) (by decide) (by decide)))) av_nil))))))))), ?_⟩
  rintro ds Q X ⟨d, ms, row, L, B, W, l, b, wd, rfl, z, hne, hlr, ok, k, kx⟩
  have zl := z.len
  walk_at "s"
  refine ⟨d, rfl, ok, ?_, kx⟩
  rintro ⟨kd, rfl, hkd⟩
  have kq := k kd rfl hkd
  walk_at "s"
  refine ⟨ms, row, rfl, by omega, z.hOk, z.rOk, ?_⟩
  walk_at "d"
  refine ⟨frs_flat _, ?_⟩
  walk_at "s"
  have hml : (missR ms row).length = ms.length := by unfold missR; rw [List.length_zipWith]; omega
  refine ite2 (fun c => ?_) (fun c => ?_)
  · have ek : kd = "far" := c
    subst ek
    have e : meas "far" ms row = maxR ((missR ms row).map absR) := by unfold meas; rw [if_pos rfl]
    rw [e] at kq
    walk_at "d"
    refine lc_map fr fr (fun q : Rat => [absR q]) (missR ms row) (by omega) (fun Q h => h) (fun q hq N acc hN => ?_) ?_
    · walk_at "d"
      refine ⟨q, rfl, ?_⟩
      walk_at "d"
      exact hN
    rw [flat_single]
    refine ⟨(missR ms row).map absR, rfl, fun q hq => ?_, fun h0 => ?_, fun q hq hle => ?_⟩
    · obtain ⟨x, hx, rfl⟩ := List.mem_map.mp hq
      have := z.missOk x hx
      exact ⟨by rw [absR_num]; have := this.n; unfold Wee at *; omega, this.d⟩
    · have := congrArg List.length h0
      rw [List.length_map, hml] at this
      exact absurd (List.length_eq_zero_iff.mp this) hne
    · have hq0 : 0 ≤ q := by
        obtain ⟨x, _, rfl⟩ := List.mem_map.mp hq
        exact absR_nn x
      rw [maxR_eq hq0 (.inr hq) hle]
      walk_at "d"
      exact kq
  have nk : kd ≠ "far" := c
  walk_at "s"
  refine ⟨ms, row, L, B, W, l, b, wd, rfl, z, ?_⟩
  walk_at "d"
  refine ⟨frs_flat _, ?_⟩
  walk_at "s"
  have hwl := wmissR_len (ms := ms) (row := row)
  refine ite2 (fun c => ?_) (fun c => ?_)
  · have ek : kd = "sum" := c
    subst ek
    have e : meas "sum" ms row = tot ((wmissR ms row).map absR) := by unfold meas; rw [if_neg (by decide), if_pos rfl]
    rw [e] at kq
    walk_at "d"
    refine lc_map fr fr (fun q : Rat => [absR q]) (wmissR ms row) (by omega) (fun Q h => h) (fun q hq N acc hN => ?_) ?_
    · walk_at "d"
      refine ⟨q, rfl, ?_⟩
      walk_at "d"
      exact hN
    rw [flat_single]
    refine ⟨(wmissR ms row).map absR, rfl, fun q hq => ?_, z.sumOk, ?_⟩
    · obtain ⟨x, hx, rfl⟩ := List.mem_map.mp hq
      have := z.wmissOk x hx
      exact ⟨by rw [absR_num]; have := this.n; unfold Wee at *; omega, this.d⟩
    · walk_at "d"
      exact kq
  · have nk2 : kd ≠ "sum" := c
    have e : meas kd ms row = tot (sqR ms row) := by unfold meas; rw [if_neg nk, if_neg nk2]
    rw [e] at kq
    walk_at "d"
    refine lc_map (fun p : Rat × Rat => PyData.tuple [fr p.1, fr p.2]) fr (fun p : Rat × Rat => [p.1 * p.2]) ((wmissR ms row).zip (missR ms row)) (by rw [List.length_zip]; omega) (fun Q h => by
        walk_at "d"
        rw [pairD_map]; exact h) (fun p hp N acc hN => ?_) ?_
    · have := zip_all z.wmissOk z.missOk p hp
      walk_at "d"
      refine ⟨p.1, p.2, rfl, this.1, this.2, ?_⟩
      walk_at "d"
      exact hN
    rw [flat_single, zip_map (fun a b : Rat => a * b)]
    refine ⟨sqR ms row, rfl, z.sqOk, z.sqsOk, ?_⟩
    walk_at "d"
    exact kq
end
noncomputable abbrev Pr := Rat × Rat
noncomputable def pr2 (z : Pr) : PyData := .tuple [fr z.1, fr z.2]
theorem prs_flat : ∀ zs : List Pr, flatDs (zs.map pr2) = true
  | [] => rfl
  | z :: zs => by
    have := prs_flat zs
    simp only [List.map_cons, flatDs, pr2, flatD, fr, this, Bool.and_self]
noncomputable def UpP (zs : List Pr) : Prop := zs.Pairwise fun a b => a.1 ≤ b.1
noncomputable def cntP (zs : List Pr) (p : Rat) : Nat := (zs.flatMap fun z => if z.1 < p then [z] else []).length
theorem cntP_app (a b : List Pr) (p : Rat) : cntP (a ++ b) p = cntP a p + cntP b p := by
  unfold cntP
  rw [List.flatMap_append, List.length_append]
theorem cntP_all {a : List Pr} {p : Rat} (h : ∀ z ∈ a, z.1 < p) : cntP a p = a.length := by
  induction a with
  | nil => rfl
  | cons m a ih =>
    have e : cntP (m :: a) p = cntP [m] p + cntP a p := cntP_app [m] a p
    have e1 : cntP [m] p = 1 := by unfold cntP; simp [h m List.mem_cons_self]
    rw [e, e1, ih fun x hx => h x (List.mem_cons_of_mem _ hx), List.length_cons]
    omega
theorem cntP_none {a : List Pr} {p : Rat} (h : ∀ z ∈ a, ¬ z.1 < p) : cntP a p = 0 := by
  induction a with
  | nil => rfl
  | cons m a ih =>
    have e : cntP (m :: a) p = cntP [m] p + cntP a p := cntP_app [m] a p
    have e1 : cntP [m] p = 0 := by unfold cntP; simp [h m List.mem_cons_self]
    rw [e, e1, ih fun x hx => h x (List.mem_cons_of_mem _ hx)]
theorem upP_split (p : Rat) : ∀ {zs : List Pr}, UpP zs → ∃ a b, zs = a ++ b ∧ (∀ z ∈ a, z.1 < p) ∧ (∀ z ∈ b, ¬ z.1 < p)
  | [], _ => ⟨[], [], rfl, (fun _ h => nomatch h), fun _ h => nomatch h⟩
  | m :: ms, h => by
    have h1 := List.pairwise_cons.mp h
    by_cases c : m.1 < p
    · obtain ⟨a, b, e, h2, h3⟩ := upP_split p h1.2
      refine ⟨m :: a, b, by rw [e]; rfl, fun x hx => ?_, h3⟩
      rcases List.mem_cons.mp hx with rfl | hx
      · exact c
      · exact h2 x hx
    · refine ⟨[], m :: ms, rfl, (fun _ h => nomatch h), fun x hx => ?_⟩
      rcases List.mem_cons.mp hx with rfl | hx
      · exact c
      · have := h1.1 x hx
        grind
theorem upP_ins {zs : List Pr} (h : UpP zs) (z : Pr) : cntP zs z.1 ≤ zs.length ∧ UpP (zs.take (cntP zs z.1) ++ z :: zs.drop (cntP zs z.1)) ∧ (zs.take (cntP zs z.1) ++ z :: zs.drop (cntP zs z.1)).Perm (zs ++ [z]) := by
  obtain ⟨a, b, e, h1, h2⟩ := upP_split z.1 h
  have ec : cntP zs z.1 = a.length := by rw [e, cntP_app, cntP_all h1, cntP_none h2]; rfl
  have et : zs.take a.length = a := by rw [e]; simp
  have ed : zs.drop a.length = b := by rw [e]; simp
  rw [ec, et, ed]
  refine ⟨by rw [e, List.length_append]; omega, ?_, ?_⟩
  · rw [e] at h
    have h3 := List.pairwise_append.mp h
    refine List.pairwise_append.mpr ⟨h3.1, List.pairwise_cons.mpr ⟨fun y hy => Rat.not_lt.mp (h2 y hy), h3.2.1⟩, fun x hx y hy => ?_⟩
    rcases List.mem_cons.mp hy with rfl | hy
    · have := h1 x hx; grind
    · exact h3.2.2 x hx y hy
  · rw [e, List.append_assoc]
    exact List.Perm.append_left a (List.perm_append_comm (l₁ := [z]) (l₂ := b))
theorem tot_perm {a b : List Rat} (h : a.Perm b) : tot a = tot b := by
  induction h with
  | nil => rfl
  | cons x _ ih => simp only [tot, ih]
  | swap x y l => simp only [tot]; grind
  | trans _ _ i1 i2 => rw [i1, i2]
noncomputable def fsum (p : Pr → Bool) (zs : List Pr) : Rat := tot ((zs.filter p).map (·.2))
theorem fsum_app (p : Pr → Bool) (a b : List Pr) : fsum p (a ++ b) = fsum p a + fsum p b := by
  unfold fsum
  rw [List.filter_append, List.map_append, tot_app]
theorem fsum_all {p : Pr → Bool} {a : List Pr} (h : ∀ z ∈ a, p z = true) : fsum p a = tot (a.map (·.2)) := by
  unfold fsum
  rw [List.filter_eq_self.mpr h]
theorem fsum_none {p : Pr → Bool} {a : List Pr} (h : ∀ z ∈ a, ¬ p z = true) : fsum p a = 0 := by
  unfold fsum
  rw [List.filter_eq_nil_iff.mpr h]; rfl
theorem tot_nn : ∀ {a : List Rat}, (∀ q ∈ a, 0 ≤ q) → 0 ≤ tot a
  | [], _ => Rat.le_refl
  | x :: a, h => by
    have h1 := h x List.mem_cons_self
    have h2 := tot_nn (a := a) fun q hq => h q (List.mem_cons_of_mem _ hq)
    simp only [tot]
    grind
theorem fsum_nn {p : Pr → Bool} {a : List Pr} (h : ∀ z ∈ a, 0 ≤ z.2) : 0 ≤ fsum p a := tot_nn fun q hq => by
  obtain ⟨z, hz, rfl⟩ := List.mem_map.mp hq
  exact h z (List.mem_filter.mp hz).1
theorem fsum_le {p : Pr → Bool} : ∀ {a : List Pr}, (∀ z ∈ a, 0 ≤ z.2) → fsum p a ≤ tot (a.map (·.2))
  | [], _ => Rat.le_refl
  | x :: a, h => by
    have h1 := h x List.mem_cons_self
    have h2 := fsum_le (p := p) (a := a) fun q hq => h q (List.mem_cons_of_mem _ hq)
    have e : fsum p (x :: a) = fsum p [x] + fsum p a := fsum_app p [x] a
    have e1 : fsum p [x] ≤ x.2 := by
      unfold fsum
      by_cases c : p x = true
      · simp [c, tot]; grind
      · simp [c, tot]; exact h1
    rw [e]
    simp only [List.map_cons, tot]
    grind
theorem fsum_perm {p : Pr → Bool} {a b : List Pr} (h : a.Perm b) : fsum p a = fsum p b := tot_perm ((h.filter p).map _)
structure Mid (zs : List Pr) (x : Rat) : Prop where
  mem : ∃ z ∈ zs, z.1 = x
  lo : fsum (fun z => decide (z.1 < x)) zs + fsum (fun z => decide (z.1 < x)) zs < tot (zs.map (·.2))
  hi : tot (zs.map (·.2)) ≤ fsum (fun z => decide (z.1 ≤ x)) zs + fsum (fun z => decide (z.1 ≤ x)) zs
theorem mid_of {zs ps : List Pr} {s : Nat} (up : UpP ps) (pm : ps.Perm zs) (nn : ∀ z ∈ zs, 0 ≤ z.2) (hs : s < ps.length) (h1 : tot ((ps.take s).map (·.2)) + tot ((ps.take s).map (·.2)) < tot (zs.map (·.2)))
    (h2 : tot (zs.map (·.2)) ≤ tot ((ps.take (s + 1)).map (·.2)) + tot ((ps.take (s + 1)).map (·.2))) : Mid zs ps[s].1 := by
  have np : ∀ z ∈ ps, 0 ≤ z.2 := fun z hz => nn z (pm.mem_iff.mp hz)
  refine ⟨⟨ps[s], pm.mem_iff.mp (List.getElem_mem hs), rfl⟩, ?_, ?_⟩
  · rw [← fsum_perm pm]
    have e := fsum_app (fun z => decide (z.1 < ps[s].1)) (ps.take s) (ps.drop s)
    rw [List.take_append_drop] at e
    have e0 : fsum (fun z => decide (z.1 < ps[s].1)) (ps.drop s) = 0 := fsum_none fun z hz => by
      rw [List.drop_eq_getElem_cons hs] at hz
      have hp : UpP (ps.drop s) := List.Pairwise.drop up
      rw [List.drop_eq_getElem_cons hs] at hp
      rcases List.mem_cons.mp hz with rfl | hz
      · simp
      · have := (List.pairwise_cons.mp hp).1 z hz
        simpa using Rat.not_lt.mpr this
    have e1 := fsum_le (p := fun z => decide (z.1 < ps[s].1)) (a := ps.take s) fun z hz => np z (List.mem_of_mem_take hz)
    grind
  · rw [← fsum_perm pm]
    have e := fsum_app (fun z => decide (z.1 ≤ ps[s].1)) (ps.take (s + 1)) (ps.drop (s + 1))
    rw [List.take_append_drop] at e
    have e0 := fsum_nn (p := fun z => decide (z.1 ≤ ps[s].1)) (a := ps.drop (s + 1)) fun z hz => np z (List.mem_of_mem_drop hz)
    have e1 : fsum (fun z => decide (z.1 ≤ ps[s].1)) (ps.take (s + 1)) = tot ((ps.take (s + 1)).map (·.2)) := fsum_all fun z hz => by
      obtain ⟨i, hi, rfl⟩ := List.getElem_of_mem hz
      rw [List.getElem_take]
      rw [List.length_take] at hi
      by_cases c : i = s
      · subst c; simp
      · have := List.pairwise_iff_getElem.mp up i s (by omega) hs (by omega)
        simpa using this
    grind
section
variable {P : Program} {w : World} {K : PySem.W.Frag} {mg : Str → Option Value} {base : Heap} {A : Adr}
theorem atI_p2 {ps : List Pr} {k : Int} {j : Nat} (e : k = (j : Int)) (h : j < ps.length) : atI (ps.map pr2) k = some (pr2 ps[j]) := by
  rw [atI_mk (xs := ps) pr2 (by omega) (by omega), e, Int.toNat_natCast]
  simp [h]
noncomputable def wOrder : DW := fun ds Q _ => ∃ qs vs : List Rat, ds = [.list (qs.map fr), .list (vs.map fr)] ∧ qs.length = vs.length ∧ qs.length ≤ 60 ∧ (∀ q ∈ qs, Ok q) ∧ ∀ ps : List Pr, UpP ps → ps.Perm (qs.zip vs) → Q (.own (ps.map pr2))
theorem ok_in_order (T : Txt K mg A) : FnOk P w K mg base (CXE P w) 2 A.a_in_order A.d_in_order ["some", "weights"] (spW K wOrder) := by
  have G_is_less := ok_is_less (P := P) (w := w) (base := base) T
  refine okW T.F_in_order sc_in_order (fun ds Q E h => ?_) (fun cdv Ar outer s H E hr => ?_)
  · obtain ⟨_, _, rfl, _⟩ := h; rfl
  refine ⟨_, (pss_cons (ps_set (i := 2) sc_in_order.nd rfl (Or.inl rfl) (pe_lst pa_nil))
      (pss_cons (ps_for PassesOwn.leaving rfl (pi_zip (K := K) rfl rfl T.n_zip (pa_cons (pv 0) (pa_cons (pv 1) pa_nil))) (pgtK (K := K) (n := 2) rfl rfl (pgs_cons (pg_name (i := 3) sc_in_order.nd rfl (Or.inr rfl)) (pgs_cons (pg_name (i := 4) sc_in_order.nd rfl (Or.inl rfl)) pgs_nil)))
        (pss_cons (ps_set (i := 5) sc_in_order.nd rfl (Or.inl rfl) (pe_callB (lenK (K := K) rfl) rfl T.n_len PySem.boot_len (pa_cons (pe_lc (cap := [none, some 3]) (NC := ["pair", "one"]) rfl ⟨rfl, rfl, by decide +kernel, by decide +kernel, ⟨⟨_, rfl, rfl, rfl, rfl, rfl⟩, trivial⟩, (List.forall_mem_cons.2 ⟨rfl, (fun _ h => nomatch h)⟩), rfl⟩ (pilK (K := K) rfl (pv 2)) (fun _ _ _ _ => (pg_name (i := 0) (show List.Nodup (["pair", "one"] : List Str) by decide) rfl (Or.inl rfl))) (fun _ _ _ _ => (pts_one (pt_val (pe_call G_is_less (hr.mono (by decide)) rfl T.m_is_less T.F_is_less.kp T.b_is_less .nil passE0 (pa_cons (pe_ix (ixtK (K := K) rfl) (pv 0) pe_int (fun _ _ => rfl)) (pa_cons (pv 1) pa_nil)))))) (fun _ _ _ _ => (pv 0))) pa_nil)))
      (pss_one (ps_expr (pe_bm PySem.F.plainAttrs_list PySem.F.slot_list_insert PySem.F.type_list_insert mt_insert (pv 2) (pa_cons (pv 5) (pa_cons (pe_tup (pa_cons (pv 3) (pa_cons (pv 4) pa_nil))) pa_nil)))))))
      (pss_one (ps_ret (pv 2))))), _, (sv_seq (sv_setO 2 (ov_lst ae_nil (by decide)))
      (sv_seq (sv_for (is_zip (ev_var 0) (ev_var 1)) (gv_tup (gs_cons (gv_name 3) (gs_cons (gv_name 4) gs_nil)))
        (sv_seq (sv_asg (ev_cb rb_len (av_cons (bv_ev (ev_ov (ov_lc (ie_list (lv_var 2)) (gv_name 0) (tv_b (bv_ev (ev_call0 (av_cons (bv_ev (ev_ixk 0 (ev_var 0))) (av_cons (bv_var 1) av_nil))))) (ev_var 0) (by decide) (by decide)))) av_nil)) (gv_name 5))
      (sv_ins 2 (bv_var 5) (ev_tup (ae_cons (ev_var 3) (ae_cons (ev_var 4) ae_nil)) (by decide)))))
      (sv_retV 2))), ?_⟩
  rintro ds Q X ⟨qs, vs, rfl, hl, n60, ho, k⟩
  have zl : (qs.zip vs).length ≤ 60 := by rw [List.length_zip]; omega
  have hz : ∀ z ∈ qs.zip vs, Ok z.1 := fun z h => ho _ (List.of_mem_zip (a := z.1) (b := z.2) h).1
  walk_at "s"
  refine seq_mk (for_map (fun z : Pr => PyData.tuple [fr z.1, fr z.2]) (qs.zip vs) (fun Q h => by
      walk_at "d"
      rw [pairD_map]; exact h)
    (fun i δ => ∃ (ps : List Pr) (t1 t2 t3 : Option Sl), δ = [some (.dat (.list (qs.map fr))), some (.dat (.list (vs.map fr))), some (.own (ps.map pr2)), t1, t2, t3] ∧ UpP ps ∧ ps.Perm ((qs.zip vs).take i))
    ⟨[], _, _, _, rfl, List.Pairwise.nil, .nil⟩ ?_ ?_)
  · rintro i z δ hi ⟨ps, t1, t2, t3, rfl, up, pm⟩
    have pl : ps.length ≤ 60 := by have := pm.length_eq; rw [List.length_take] at this; omega
    have po : ∀ x ∈ ps, Ok x.1 := fun x hx => hz x (List.mem_of_mem_take (pm.mem_iff.mp hx))
    have oz := hz z (List.mem_of_getElem? hi)
    obtain ⟨h1, h2, h3⟩ := upP_ins up z
    have pm2 : (ps.take (cntP ps z.1) ++ z :: ps.drop (cntP ps z.1)).Perm ((qs.zip vs).take (i + 1)) := by
      rw [take_snoc hi]
      exact h3.trans (pm.append_right [z])
    walk_at "s"
    refine lc_map pr2 pr2 (fun x : Pr => if x.1 < z.1 then [x] else []) ps (by omega) (fun Q h => h) (fun x h N acc hN => ?_) ?_
    · walk_at "d"
      refine ⟨x.1, z.1, rfl, po x h, oz, ?_⟩
      walk_at "d"
      by_cases c : x.1 < z.1
      · rw [if_pos c]
        rw [if_pos c] at hN
        exact hN
      · rw [if_neg c]
        rw [if_neg c] at hN
        simpa using hN
    have ec : ((ps.flatMap fun x : Pr => if x.1 < z.1 then [x] else []).map pr2).length = cntP ps z.1 := by rw [List.length_map]; rfl
    generalize (ps.flatMap fun x : Pr => if x.1 < z.1 then [x] else []) = L at *
    walk_at "d"
    rw [List.length_map] at ec
    rw [ec]
    have ef : List.take (cntP ps z.1) (ps.map pr2) ++ PyData.tuple [fr z.1, fr z.2] :: List.drop (cntP ps z.1) (ps.map pr2) = (ps.take (cntP ps z.1) ++ z :: ps.drop (cntP ps z.1)).map pr2 := by
      rw [List.map_append, List.map_cons, List.map_take, List.map_drop]
      rfl
    rw [Int.toNat_natCast, ef]
    exact ⟨by omega, by omega, by omega, _, _, _, _, rfl, h2, pm2⟩
  · rintro δ ⟨ps, t1, t2, t3, rfl, up, pm⟩
    walk_at "d"
    rw [List.take_of_length_le (Nat.le_refl _)] at pm
    exact k ps up pm
theorem tot_pos : ∀ {a : List Rat}, a ≠ [] → (∀ q ∈ a, 0 < q) → 0 < tot a
  | [], h, _ => absurd rfl h
  | x :: a, _, h => by
    have h1 := h x List.mem_cons_self
    have h2 := tot_nn (a := a) fun q hq => by have := h q (List.mem_cons_of_mem _ hq); grind
    simp only [tot]
    grind
noncomputable def wMiddle : DW := fun ds Q _ => ∃ qs vs : List Rat, ds = [.list (qs.map fr), .list (vs.map fr)] ∧ qs.length = vs.length ∧ 1 ≤ qs.length ∧ qs.length ≤ 60 ∧ (∀ q ∈ qs, Ok q) ∧ (∀ v ∈ vs, 0 < v ∧ Cm 1 (10 ^ 120) v) ∧ ∀ x : Rat, Mid (qs.zip vs) x → Q (.dat (fr x))
theorem ok_middle_of (T : Txt K mg A) : FnOk P w K mg base (CXE P w) 4 A.a_middle_of A.d_middle_of ["some", "weights"] (spW K wMiddle) := by
  have G_is_less := ok_is_less (P := P) (w := w) (base := base) T
  have G_in_order := ok_in_order (P := P) (w := w) (base := base) T
  have G_total_of := ok_total_of (P := P) (w := w) (base := base) T
  have G_plus := ok_plus (P := P) (w := w) (base := base) T
  refine okW T.F_middle_of sc_middle_of (fun ds Q E h => ?_) (fun cdv Ar outer s H E hr => ?_)
  · obtain ⟨_, _, rfl, _⟩ := h; rfl
  refine ⟨_, (pss_cons (ps_set (i := 2) sc_middle_of.nd rfl (Or.inl rfl) (pe_call G_in_order (hr.mono (by decide)) rfl T.m_in_order T.F_in_order.kp T.b_in_order .nil passE0 (pa_cons (pv 0) (pa_cons (pv 1) pa_nil))))
      (pss_cons (ps_set (i := 3) sc_middle_of.nd rfl (Or.inl rfl) (pe_call G_total_of (hr.mono (by decide)) rfl T.m_total_of T.F_total_of.kp T.b_total_of .nil passE0 (pa_cons (pv 1) pa_nil)))
      (pss_cons (ps_set (i := 4) sc_middle_of.nd rfl (Or.inl rfl) pe_int)
      (pss_cons (ps_set (i := 5) sc_middle_of.nd rfl (Or.inl rfl) (pe_ix (ixtK (K := K) rfl) (pe_ix (ixlK (K := K) rfl) (pv 2) pe_int (fun _ _ => rfl)) pe_int (fun _ _ => rfl)))
      (pss_cons (ps_while PassesOwn.leaving (pt_val (pe_call G_is_less (hr.mono (by decide)) rfl T.m_is_less T.F_is_less.kp T.b_is_less .nil passE0 (pa_cons (pe_call G_plus (hr.mono (by decide)) rfl T.m_plus T.F_plus.kp T.b_plus .nil passE0 (pa_cons (pv 5) (pa_cons (pv 5) pa_nil))) (pa_cons (pv 3) pa_nil)))) (pss_cons (ps_set (i := 4) sc_middle_of.nd rfl (Or.inl rfl) (pe_op op_add (pv 4) pe_int))
      (pss_one (ps_set (i := 5) sc_middle_of.nd rfl (Or.inl rfl) (pe_call G_plus (hr.mono (by decide)) rfl T.m_plus T.F_plus.kp T.b_plus .nil passE0 (pa_cons (pv 5) (pa_cons (pe_ix (ixtK (K := K) rfl) (pe_ix (ixlK (K := K) rfl) (pv 2) (pv 4) (fun _ _ => rfl)) pe_int (fun _ _ => rfl)) pa_nil)))))))
      (pss_one (ps_ret (pe_ix (ixtK (K := K) rfl) (pe_ix (ixlK (K := K) rfl) (pv 2) (pv 4) (fun _ _ => rfl)) pe_int (fun _ _ => rfl))))))))), _, (sv_seq (sv_setO 2 (ov_call0 (av_cons (bv_var 0) (av_cons (bv_var 1) av_nil))))
      (sv_seq (sv_asg (ev_call0 (av_cons (bv_var 1) av_nil)) (gv_name 3))
      (sv_seq (sv_asg ev_int (gv_name 4))
      (sv_seq (sv_asg (ev_ixk 1 (ev_ixl (lv_var 2) (bv_ev ev_int))) (gv_name 5))
      (sv_seq (sv_while (tv_b (bv_ev (ev_call0 (av_cons (bv_ev (ev_call0 (av_cons (bv_var 5) (av_cons (bv_var 5) av_nil)))) (av_cons (bv_var 3) av_nil))))) (sv_seq (sv_asg (ev_op ro_i0 (bv_var 4) (bv_ev ev_int)) (gv_name 4))
      (sv_asg (ev_call0 (av_cons (bv_var 5) (av_cons (bv_ev (ev_ixk 1 (ev_ixl (lv_var 2) (bv_var 4)))) av_nil))) (gv_name 5))))
      (sv_ret (bv_ev (ev_ixk 0 (ev_ixl (lv_var 2) (bv_var 4)))))))))), ?_⟩
  rintro ds Q X ⟨qs, vs, rfl, hl, n1, n60, ho, hv, k⟩
  have cdg : ∀ {l : List Rat}, l.length ≤ 60 → (∀ v ∈ l, Cm 1 (10 ^ 120) v) → Dg 123 (tot l) := fun {l} h1 h2 => by
    have h := Cm.tot (qs := l) (L := 1) (B := 10 ^ 120) h2
    refine h.dg (by decide) (l := 0) (by decide) (b := 122) ?_
    exact Nat.le_trans (Nat.mul_le_mul_right _ h1) (by decide +kernel)
  walk_at "s"
  refine ⟨qs, vs, rfl, hl, n60, ho, fun ps up pm => ?_⟩
  have pl : ps.length = qs.length := by rw [pm.length_eq, List.length_zip]; omega
  have zs2 : (qs.zip vs).map (·.2) = vs := List.map_snd_zip (by omega)
  have p2 : (ps.map (·.2)).Perm vs := by rw [← zs2]; exact pm.map _
  have pv : ∀ v ∈ ps.map (·.2), 0 < v ∧ Cm 1 (10 ^ 120) v := fun v h => hv v (p2.mem_iff.mp h)
  have sdg : ∀ s, Dg 123 (tot ((ps.take s).map (·.2))) := fun s => cdg (by rw [List.length_map, List.length_take]; omega) fun v h => by
    rw [List.map_take] at h
    exact (pv v (List.mem_of_mem_take h)).2
  have wdg : Dg 123 (tot vs) := cdg (by omega) fun v h => (hv v h).2
  have wpos : 0 < tot vs := tot_pos (fun e => by rw [e, List.length_nil] at hl; omega) fun v h => (hv v h).1
  walk_at "d"
  refine ⟨prs_flat _, ?_⟩
  walk_at "s"
  refine ⟨vs, rfl, fun v h => dgOk ((hv v h).2.dg (by decide) (l := 0) (by decide) (b := 120) (Nat.le_refl _)) (by decide), fun i => dgOk (cdg (by rw [List.length_take]; omega) fun v h => (hv v (List.mem_of_mem_take h)).2) (by decide), ?_⟩
  walk_at "s"
  walk_at "s"
  refine ⟨_, atI_p2 (j := 0) rfl (by omega), ?_⟩
  walk_at "s"
  have s1 : tot ((ps.take 1).map (·.2)) = ps[0].2 := by
    rw [take_snoc (List.getElem?_eq_getElem (show 0 < ps.length by omega))]
    simp [tot, Rat.add_zero]
  refine ⟨fun m δ => ∃ s : Nat, s < ps.length ∧ m = ps.length - s ∧ δ = [some (.dat (.list (qs.map fr))), some (.dat (.list (vs.map fr))), some (.own (ps.map pr2)), some (.dat (fr (tot vs))), some (.dat (.int (s : Int))), some (.dat (fr (tot ((ps.take (s + 1)).map (·.2)))))] ∧ tot ((ps.take s).map (·.2)) + tot ((ps.take s).map (·.2)) < tot vs, ⟨_, 0, by omega, rfl, by rw [s1]; rfl, by simpa [tot, Rat.add_zero] using wpos⟩, ?_⟩
  rintro m δ ⟨s, hs, rfl, rfl, hlt⟩
  have o1 := dgOk (sdg (s + 1)) (by decide)
  have d2 : Dg 247 (tot ((ps.take (s + 1)).map (·.2)) + tot ((ps.take (s + 1)).map (·.2))) := (sdg (s + 1)).add (sdg (s + 1))
  walk_at "d"
  refine ⟨_, _, rfl, o1, o1, ?_⟩
  walk_at "d"
  refine ⟨_, _, rfl, dgOk d2 (by decide), dgOk wdg (by decide), ?_⟩
  walk_at "d"
  refine ite2 (fun c => ?_) (fun c => ?_)
  · have hs2 : s + 1 < ps.length := Decidable.not_not.mp fun z => by
      rw [List.take_of_length_le (by omega), tot_perm p2] at c
      grind
    walk_at "s"
    refine ⟨_, atI_p2 (j := s + 1) (by omega) hs2, ?_⟩
    have ov : Ok ps[s + 1].2 := dgOk ((pv _ (List.mem_map.mpr ⟨_, List.getElem_mem hs2, rfl⟩)).2.dg (by decide) (l := 0) (by decide) (b := 120) (Nat.le_refl _)) (by decide)
    refine ⟨_, _, rfl, o1, ov, ?_⟩
    walk_at "d"
    refine ⟨ps.length - (s + 1), by omega, s + 1, hs2, rfl, ?_, c⟩
    rw [take_snoc (List.getElem?_eq_getElem hs2), List.map_append, tot_app]
    simp [tot, Rat.add_zero]
  · walk_at "d"
    refine ⟨_, atI_p2 (j := s) rfl hs, ?_⟩
    refine k _ (mid_of up pm (fun z hz => ?_) hs ?_ ?_)
    · have := (hv z.2 (List.of_mem_zip (a := z.1) (b := z.2) hz).2).1
      grind
    · rw [zs2]; exact hlt
    · rw [zs2]; exact Rat.not_lt.mp c
end
noncomputable def half0 : Rat := Rat.divInt 1 2
noncomputable def hgts (ms : List Mk) : List Rat := ms.map fun m => m.2.1
noncomputable def wgts (ms : List Mk) : List Rat := ms.map fun m => (m.2.2 : Rat)
structure LevelOk (kd : Str) (ms : List Mk) (x : Rat) : Prop where
  far : kd = "far" → ∃ a b, a ∈ hgts ms ∧ (∀ r ∈ hgts ms, r ≤ a) ∧ b ∈ hgts ms ∧ (∀ r ∈ hgts ms, b ≤ r) ∧ x = half0 * (a + b)
  sum : kd = "sum" → Mid ((hgts ms).zip (wgts ms)) x
  sq : kd = "square" → x = tot (List.zipWith (fun v h => v * h) (wgts ms) (hgts ms)) / tot (wgts ms)
section
variable {P : Program} {w : World} {K : PySem.W.Frag} {mg : Str → Option Value} {base : Heap} {A : Adr}
noncomputable def wLevel : DW := fun ds Q _ => ∃ (kd : Str) (ms : List Mk) (L : Nat), ds = [.str kd, .list (ms.map mk3)] ∧ kd ∈ kdsL ∧ 1 ≤ ms.length ∧ ms.length ≤ 60 ∧ 0 < L ∧ L ≤ 10 ^ 100 ∧ (∀ m ∈ ms, Cm L (10 ^ 100) m.2.1) ∧ (∀ m ∈ ms, 1 ≤ m.2.2 ∧ m.2.2 ≤ 10 ^ 100) ∧ ∀ x, LevelOk kd ms x → Q (.dat (fr x))
theorem ok_least_level (T : Txt K mg A) : FnOk P w K mg base (CXE P w) 5 A.a_least_level A.d_least_level ["kind", "marks"] (spW K wLevel) := by
  have G_product := ok_product (P := P) (w := w) (base := base) T
  have G_plus := ok_plus (P := P) (w := w) (base := base) T
  have G_greatest_of := ok_greatest_of (P := P) (w := w) (base := base) T
  have G_least_of := ok_least_of (P := P) (w := w) (base := base) T
  have G_middle_of := ok_middle_of (P := P) (w := w) (base := base) T
  have G_quotient := ok_quotient (P := P) (w := w) (base := base) T
  have G_total_of := ok_total_of (P := P) (w := w) (base := base) T
  refine okW T.F_least_level sc_least_level (fun ds Q E h => ?_) (fun cdv Ar outer s H E hr => ?_)
  · obtain ⟨_, _, _, rfl, _⟩ := h; rfl
  refine ⟨_, (pss_cons (ps_setLC (i := 2) (cap := [none]) (NC := ["mark"]) sc_least_level.nd rfl rfl rfl ⟨rfl, rfl, by decide +kernel, by decide +kernel, trivial, (fun _ h => nomatch h), rfl⟩ (pilK (K := K) rfl (pv 1)) (fun _ _ _ _ => (pg_name (i := 0) (show List.Nodup (["mark"] : List Str) by decide) rfl (Or.inl rfl))) (fun _ _ _ _ => pts_nil) (fun _ _ _ _ => (pe_ix (ixtK (K := K) rfl) (pv 0) pe_int (fun _ _ => rfl))))
      (pss_cons (ps_if (pt_cmpR op_eq (pv 0) pe_str (nomark _)) (pss_one (ps_ret (pe_call G_product (hr.mono (by decide)) rfl T.m_product T.F_product.kp T.b_product .nil passE0 (pa_cons (pe_tup (pa_cons pe_int (pa_cons pe_int pa_nil))) (pa_cons (pe_call G_plus (hr.mono (by decide)) rfl T.m_plus T.F_plus.kp T.b_plus .nil passE0 (pa_cons (pe_call G_greatest_of (hr.mono (by decide)) rfl T.m_greatest_of T.F_greatest_of.kp T.b_greatest_of .nil passE0 (pa_cons (pv 2) pa_nil)) (pa_cons (pe_call G_least_of (hr.mono (by decide)) rfl T.m_least_of T.F_least_of.kp T.b_least_of .nil passE0 (pa_cons (pv 2) pa_nil)) pa_nil))) pa_nil))))) pss_nil)
      (pss_cons (ps_setLC (i := 3) (cap := [none]) (NC := ["mark"]) sc_least_level.nd rfl rfl rfl ⟨rfl, rfl, by decide +kernel, by decide +kernel, trivial, (fun _ h => nomatch h), rfl⟩ (pilK (K := K) rfl (pv 1)) (fun _ _ _ _ => (pg_name (i := 0) (show List.Nodup (["mark"] : List Str) by decide) rfl (Or.inl rfl))) (fun _ _ _ _ => pts_nil) (fun _ _ _ _ => (pe_tup (pa_cons (pe_ix (ixtK (K := K) rfl) (pv 0) pe_int (fun _ _ => rfl)) (pa_cons pe_int pa_nil)))))
      (pss_cons (ps_if (pt_cmpR op_eq (pv 0) pe_str (nomark _)) (pss_one (ps_ret (pe_call G_middle_of (hr.mono (by decide)) rfl T.m_middle_of T.F_middle_of.kp T.b_middle_of .nil passE0 (pa_cons (pv 2) (pa_cons (pv 3) pa_nil))))) pss_nil)
      (pss_cons (ps_setLC (i := 4) (cap := [none, none]) (NC := ["weight", "height"]) sc_least_level.nd rfl rfl rfl ⟨rfl, rfl, by decide +kernel, by decide +kernel, trivial, (fun _ h => nomatch h), rfl⟩ (pi_zip (K := K) rfl rfl T.n_zip (pa_cons (pv 3) (pa_cons (pv 2) pa_nil))) (fun _ _ _ _ => (pgtK (K := K) (n := 2) rfl rfl (pgs_cons (pg_name (i := 0) (show List.Nodup (["weight", "height"] : List Str) by decide) rfl (Or.inl rfl)) (pgs_cons (pg_name (i := 1) (show List.Nodup (["weight", "height"] : List Str) by decide) rfl (Or.inl rfl)) pgs_nil)))) (fun _ _ _ _ => pts_nil) (fun _ _ _ _ => (pe_call G_product (hr.mono (by decide)) rfl T.m_product T.F_product.kp T.b_product .nil passE0 (pa_cons (pv 0) (pa_cons (pv 1) pa_nil)))))
      (pss_one (ps_ret (pe_call G_quotient (hr.mono (by decide)) rfl T.m_quotient T.F_quotient.kp T.b_quotient .nil passE0 (pa_cons (pe_call G_total_of (hr.mono (by decide)) rfl T.m_total_of T.F_total_of.kp T.b_total_of .nil passE0 (pa_cons (pv 4) pa_nil)) (pa_cons (pe_call G_total_of (hr.mono (by decide)) rfl T.m_total_of T.F_total_of.kp T.b_total_of .nil passE0 (pa_cons (pv 3) pa_nil)) pa_nil)))))))))), _, (sv_seq (sv_setO 2 (ov_lc (ie_list (lv_var 1)) (gv_name 0) tv_yes (ev_ixk 1 (ev_var 0)) (by decide) (by decide)))
      (sv_seq (sv_if (tv_test (bv_ev (ev_op ro_eq (bv_var 0) (bv_ev ev_str)))) (sv_ret (bv_ev (ev_call0 (av_cons (bv_ev (ev_tup (ae_cons ev_int (ae_cons ev_int ae_nil)) (by decide))) (av_cons (bv_ev (ev_call0 (av_cons (bv_ev (ev_call0 (av_cons (bv_var 2) av_nil))) (av_cons (bv_ev (ev_call0 (av_cons (bv_var 2) av_nil))) av_nil)))) av_nil))))) sv_next)
      (sv_seq (sv_setO 3 (ov_lc (ie_list (lv_var 1)) (gv_name 0) tv_yes (ev_tup (ae_cons (ev_ixk 2 (ev_var 0)) (ae_cons ev_int ae_nil)) (by decide)) (by decide) (by decide)))
      (sv_seq (sv_if (tv_test (bv_ev (ev_op ro_eq (bv_var 0) (bv_ev ev_str)))) (sv_ret (bv_ev (ev_call0 (av_cons (bv_var 2) (av_cons (bv_var 3) av_nil))))) sv_next)
      (sv_seq (sv_setO 4 (ov_lc (ie_zip (lv_var 3) (lv_var 2)) (gv_tup (gs_cons (gv_name 0) (gs_cons (gv_name 1) gs_nil))) tv_yes (ev_call0 (av_cons (bv_var 0) (av_cons (bv_var 1) av_nil))) (by decide) (by decide)))
      (sv_ret (bv_ev (ev_call0 (av_cons (bv_ev (ev_call0 (av_cons (bv_var 4) av_nil))) (av_cons (bv_ev (ev_call0 (av_cons (bv_var 3) av_nil))) av_nil)))))))))), ?_⟩
  rintro ds Q X ⟨kd, ms, L, rfl, hkd, n1, n60, L0, L1, hc, hw, k⟩
  walk_at "s"
  refine lc_map mk3 fr (fun m : Mk => [m.2.1]) ms (by omega) (fun Q h => h) (fun m h N acc hN => ?_) ?_
  · walk_at "d"
    exact hN
  rw [flat_single]
  obtain ⟨hs, hhs⟩ : ∃ hs, hgts ms = hs := ⟨_, rfl⟩
  rw [show ms.map (fun m : Mk => m.2.1) = hs from hhs]
  have hl : hs.length = ms.length := by rw [← hhs, hgts, List.length_map]
  have hcm : ∀ q ∈ hs, Cm L (10 ^ 100) q := fun q hq => by
    rw [← hhs] at hq
    obtain ⟨m, hm, rfl⟩ := List.mem_map.mp hq
    exact hc m hm
  have hdg : ∀ q ∈ hs, Dg 201 q := fun q hq => (hcm q hq).dg L0 L1 (b := 100) (Nat.le_refl _)
  have hok : ∀ q ∈ hs, Ok q := fun q hq => dgOk (hdg q hq) (by decide)
  walk_at "s"
  refine ite2 (fun c => ?_) (fun c => ?_)
  · have ek : kd = "far" := c
    subst ek
    walk_at "d"
    have hne : hs ≠ [] := fun e => by rw [e, List.length_nil] at hl; omega
    refine ⟨hs, rfl, hok, fun e => hne e, fun a ha hla => ⟨rfl, ?_⟩⟩
    refine ⟨hs, rfl, hok, fun e => hne e, fun b hb hlb => ⟨rfl, ?_⟩⟩
    refine ⟨a, b, rfl, hok a ha, hok b hb, rfl, ?_⟩
    have dab : Dg 403 (a + b) := (hdg a ha).add (hdg b hb)
    have dh : Dg 1 half0 := ⟨by decide +kernel, by decide +kernel⟩
    refine ⟨half0, a + b, rfl, dgOk dh (by decide), dgOk dab (by decide), rfl, ?_⟩
    refine k _ ⟨fun _ => ⟨a, b, ?_, ?_, ?_, ?_, rfl⟩, fun h => absurd h (by decide), fun h => absurd h (by decide)⟩ <;> rw [hhs] <;> assumption
  have nk : kd ≠ "far" := c
  walk_at "s"
  refine lc_map mk3 fr (fun m : Mk => [(m.2.2 : Rat)]) ms (by omega) (fun Q h => h) (fun m h N acc hN => ?_) ?_
  · walk_at "d"
    exact hN
  rw [flat_single]
  obtain ⟨vs, hvs⟩ : ∃ vs, wgts ms = vs := ⟨_, rfl⟩
  rw [show ms.map (fun m : Mk => (m.2.2 : Rat)) = vs from hvs]
  have vl : vs.length = ms.length := by rw [← hvs, wgts, List.length_map]
  have hv : ∀ v ∈ vs, 0 < v ∧ Cm 1 (10 ^ 120) v := fun v h => by
    rw [← hvs] at h
    obtain ⟨m, hm, rfl⟩ := List.mem_map.mp h
    have h1 := hw m hm
    refine ⟨Rat.intCast_pos.mpr (by omega), Cm.int ?_⟩
    have : (10 : Nat) ^ 100 ≤ 10 ^ 120 := by decide +kernel
    omega
  walk_at "s"
  refine ite2 (fun c => ?_) (fun c => ?_)
  · have ek : kd = "sum" := c
    subst ek
    walk_at "d"
    refine ⟨hs, vs, rfl, by omega, by omega, by omega, hok, hv, fun x hx => ?_⟩
    walk_at "d"
    exact k x ⟨fun h => absurd h (by decide), fun _ => by rw [hhs, hvs]; exact hx, fun h => absurd h (by decide)⟩
  have nk2 : kd ≠ "sum" := c
  walk_at "s"
  have v0 : ∀ v ∈ vs, Cm 1 (10 ^ 100) v := fun v h => by
    rw [← hvs] at h
    obtain ⟨m, hm, rfl⟩ := List.mem_map.mp h
    have h1 := hw m hm
    exact Cm.int (by omega)
  have vok : ∀ v ∈ vs, Ok v := fun v h => dgOk ((v0 v h).dg (by decide) (l := 0) (by decide) (b := 100) (Nat.le_refl _)) (by decide)
  refine lc_map (fun p : Rat × Rat => PyData.tuple [fr p.1, fr p.2]) fr (fun p : Rat × Rat => [p.1 * p.2]) (vs.zip hs) (by rw [List.length_zip]; omega) (fun Q h => by
      walk_at "d"
      rw [pairD_map]; exact h) (fun p hp N acc hN => ?_) ?_
  · have := zip_all vok hok p hp
    walk_at "d"
    refine ⟨p.1, p.2, rfl, this.1, this.2, ?_⟩
    walk_at "d"
    exact hN
  rw [flat_single, zip_map (fun a b : Rat => a * b)]
  obtain ⟨us, hus⟩ : ∃ us, List.zipWith (fun a b : Rat => a * b) vs hs = us := ⟨_, rfl⟩
  rw [hus]
  have ul : us.length ≤ 60 := by rw [← hus, List.length_zipWith]; omega
  have uc : ∀ u ∈ us, Cm (1 * L) (10 ^ 100 * 10 ^ 100) u := fun u hu => by
    rw [← hus, ← zip_map] at hu
    obtain ⟨p, hp, rfl⟩ := List.mem_map.mp hu
    have hz := List.of_mem_zip (a := p.1) (b := p.2) hp
    exact (v0 _ hz.1).mul (hcm _ hz.2)
  have ud : ∀ i, Dg 303 (tot (us.take i)) := fun i => by
    have h := Cm.tot (qs := us.take i) fun u hu => uc u (List.mem_of_mem_take hu)
    refine h.dg (l := 100) (by omega) (by omega) (b := 202) ?_
    exact Nat.le_trans (Nat.mul_le_mul_right _ (show _ ≤ 60 by rw [List.length_take]; omega)) (by decide +kernel)
  have wd : ∀ i, Dg 103 (tot (vs.take i)) := fun i => by
    have h := Cm.tot (qs := vs.take i) fun u hu => v0 u (List.mem_of_mem_take hu)
    refine h.dg (l := 0) (by decide) (by decide) (b := 102) ?_
    exact Nat.le_trans (Nat.mul_le_mul_right _ (show _ ≤ 60 by rw [List.length_take]; omega)) (by decide +kernel)
  have ude := ud us.length
  have wde := wd vs.length
  rw [List.take_of_length_le (Nat.le_refl _)] at ude wde
  have wpos : 0 < tot vs := tot_pos (fun e => by rw [e, List.length_nil] at vl; omega) fun v h => (hv v h).1
  refine ⟨us, rfl, fun u hu => dgOk ((uc u hu).dg (l := 100) (by omega) (by omega) (b := 200) (by decide +kernel)) (by decide), fun i => dgOk (ud i) (by decide), rfl, ?_⟩
  refine ⟨vs, rfl, vok, fun i => dgOk (wd i) (by decide), rfl, ?_⟩
  refine ⟨tot us, tot vs, rfl, dgOk ude (by decide), dgOk wde (by decide), fun e => by rw [e] at wpos; exact absurd wpos (by decide), fun _ => ⟨rfl, ?_⟩⟩
  exact k _ ⟨fun h => absurd h nk, fun h => absurd h nk2, fun _ => by rw [hhs, hvs, hus]⟩
end
noncomputable def wsum : List Mk → Int
  | [] => 0
  | m :: ms => m.2.2 + wsum ms
theorem wsum_tot : ∀ ms : List Mk, tot (wgts ms) = (wsum ms : Rat)
  | [] => rfl
  | m :: ms => by
    have := wsum_tot ms
    show (m.2.2 : Rat) + tot (wgts ms) = ((m.2.2 + wsum ms : Int) : Rat)
    rw [this, Rat.intCast_add]
theorem wsum_pos : ∀ {ms : List Mk}, ms ≠ [] → (∀ m ∈ ms, 1 ≤ m.2.2) → 1 ≤ wsum ms
  | [], h, _ => absurd rfl h
  | [m], _, h => by have := h m List.mem_cons_self; simp only [wsum]; omega
  | m :: n :: ms, _, h => by
    have h1 := h m List.mem_cons_self
    have h2 := wsum_pos (ms := n :: ms) (by simp) fun x hx => h x (List.mem_cons_of_mem _ hx)
    rw [wsum]; omega
theorem wsum_le {W : Int} : ∀ {ms : List Mk}, (∀ m ∈ ms, m.2.2 ≤ W) → wsum ms ≤ ms.length * W
  | [], _ => by simp [wsum]
  | m :: ms, h => by
    have h1 := h m List.mem_cons_self
    have h2 := wsum_le (ms := ms) fun x hx => h x (List.mem_cons_of_mem _ hx)
    rw [wsum, List.length_cons]
    have : ((ms.length + 1 : Nat) : Int) * W = ms.length * W + W := by rw [Int.natCast_add, Int.add_mul]; simp
    omega
noncomputable def umix (ms : List Mk) : Rat := tot (List.zipWith (fun v h => v * h) (wgts ms) (hgts ms))
theorem umix_cons (m : Mk) (ms : List Mk) : umix (m :: ms) = (m.2.2 : Rat) * m.2.1 + umix ms := rfl
theorem umix_bd {B : Rat} : ∀ {ms : List Mk}, (∀ m ∈ ms, -B ≤ m.2.1 ∧ m.2.1 ≤ B) → (∀ m ∈ ms, 1 ≤ m.2.2) → -(B * (wsum ms : Rat)) ≤ umix ms ∧ umix ms ≤ B * (wsum ms : Rat)
  | [], _, _ => by
    have e : umix [] = 0 := rfl
    have e2 : ((wsum [] : Int) : Rat) = 0 := rfl
    rw [e, e2, Rat.mul_zero]
    exact ⟨by decide, by decide⟩
  | m :: ms, h, hw => by
    have h1 := h m List.mem_cons_self
    have w1 := hw m List.mem_cons_self
    have h2 := umix_bd (B := B) (ms := ms) (fun x hx => h x (List.mem_cons_of_mem _ hx)) fun x hx => hw x (List.mem_cons_of_mem _ hx)
    have w0 : (0 : Rat) ≤ (m.2.2 : Rat) := Rat.intCast_nonneg.mpr (by omega)
    have a := Rat.mul_nonneg w0 (show 0 ≤ B - m.2.1 by grind)
    have b := Rat.mul_nonneg w0 (show 0 ≤ B + m.2.1 by grind)
    rw [umix_cons, wsum, Rat.intCast_add]
    constructor <;> grind
theorem umix_cm {L B : Nat} : ∀ {ms : List Mk}, (∀ m ∈ ms, Cm L B m.2.1) → (umix ms).den ∣ L
  | [], _ => ⟨L, (Nat.one_mul L).symm⟩
  | m :: ms, h => by
    have h1 : (((m.2.2 : Int) : Rat) * m.2.1).den ∣ 1 * L := ((Cm.int (i := m.2.2) (Nat.le_refl _)).mul (h m List.mem_cons_self)).d
    have h2 := umix_cm (ms := ms) fun x hx => h x (List.mem_cons_of_mem _ hx)
    rw [Nat.one_mul] at h1
    rw [umix_cons]
    have c1 : Cm L ((((m.2.2 : Int) : Rat) * m.2.1).num.natAbs) (((m.2.2 : Int) : Rat) * m.2.1) := Cm.of h1 (Nat.le_mul_of_pos_right _ (Rat.den_pos _))
    have c2 : Cm L (umix ms).num.natAbs (umix ms) := Cm.of h2 (Nat.le_mul_of_pos_right _ (Rat.den_pos _))
    exact (c1.add c2).d
theorem bd_div {x T B : Rat} (hT : 0 < T) (h : x * T ≤ B * T) : x ≤ B := Rat.not_lt.mp fun c => by
  have := Rat.mul_pos (show 0 < x - B by grind) hT
  grind
theorem half0_dbl (m : Rat) : half0 * m + half0 * m = m := by
  have : half0 + half0 = 1 := by decide +kernel
  grind
theorem half_bd {s B : Rat} (h1 : -(B + B) ≤ s) (h2 : s ≤ B + B) : -B ≤ half0 * s ∧ half0 * s ≤ B := by
  have h0 : (0 : Rat) ≤ half0 := by decide +kernel
  have e := half0_dbl B
  have a := Rat.mul_nonneg h0 (show 0 ≤ s + (B + B) by grind)
  have b := Rat.mul_nonneg h0 (show 0 ≤ (B + B) + -s by grind)
  rw [Rat.mul_add, Rat.mul_add, e] at a
  rw [Rat.mul_add, Rat.mul_add, e, Rat.mul_neg] at b
  constructor <;> grind
theorem level_cm {kd : Str} {ms : List Mk} {x : Rat} {L B : Nat} (hk : kd ∈ kdsL) (X : LevelOk kd ms x) (hne : ms ≠ []) (hc : ∀ m ∈ ms, Cm L B m.2.1) (hw : ∀ m ∈ ms, 1 ≤ m.2.2) : Cm (2 * L * (wsum ms).toNat) B x := by
  have hh : ∀ q ∈ hgts ms, Cm L B q := fun q hq => by
    obtain ⟨m, hm, rfl⟩ := List.mem_map.mp hq
    exact hc m hm
  have wp := wsum_pos hne hw
  have dl : L ∣ 2 * L * (wsum ms).toNat := ⟨2 * (wsum ms).toNat, by rw [Nat.mul_comm 2 L, Nat.mul_assoc]⟩
  have hk3 : kd = "far" ∨ kd = "sum" ∨ kd = "square" := by simpa [kdsL] using hk
  rcases hk3 with e | e | e
  · obtain ⟨a, b, ha, _, hb, _, rfl⟩ := X.far e
    have ca := hh a ha
    have cb := hh b hb
    have ch : Cm 2 1 half0 := ⟨by decide +kernel, by decide +kernel, by decide +kernel⟩
    have cx := ch.mul (ca.add cb)
    refine ⟨Nat.dvd_trans cx.d (Nat.dvd_mul_right _ _), ?_, ?_⟩
    · have h1 := ca.lo; have h2 := cb.lo; have h3 := ca.hi; have h4 := cb.hi
      exact (half_bd (by grind) (by grind)).1
    · have h1 := ca.lo; have h2 := cb.lo; have h3 := ca.hi; have h4 := cb.hi
      exact (half_bd (by grind) (by grind)).2
  · obtain ⟨z, hz, rfl⟩ := (X.sum e).mem
    exact (hh _ (List.of_mem_zip (a := z.1) (b := z.2) hz).1).mono dl (Nat.le_refl _)
  · have ex := X.sq e
    have T0 : (0 : Rat) < (wsum ms : Rat) := Rat.intCast_pos.mpr (by omega)
    have ex2 : x * (wsum ms : Rat) = umix ms := by
      rw [ex, wsum_tot, Rat.div_mul_cancel (by grind)]; rfl
    have bd := umix_bd (B := (B : Rat)) (ms := ms) (fun m hm => ⟨(hc m hm).lo, (hc m hm).hi⟩) hw
    rw [← ex2] at bd
    refine ⟨?_, ?_, bd_div T0 bd.2⟩
    · have c1 := umix_cm hc
      have e3 : x = umix ms * Rat.divInt 1 ((wsum ms).toNat : Int) := by
        rw [← ex2, Int.toNat_of_nonneg (by omega)]
        have : (wsum ms : Rat) * Rat.divInt 1 (wsum ms) = 1 := by
          rw [Rat.divInt_eq_div, Rat.div_def]
          show (wsum ms : Rat) * (1 * (wsum ms : Rat)⁻¹) = 1
          rw [Rat.one_mul, Rat.mul_inv_cancel _ (by grind)]
        rw [Rat.mul_assoc, this, Rat.mul_one]
      rw [e3]
      have c2 : Cm L (umix ms).num.natAbs (umix ms) := Cm.of c1 (Nat.le_mul_of_pos_right _ (Rat.den_pos _))
      have c3 : Cm (wsum ms).toNat 1 (Rat.divInt 1 ((wsum ms).toNat : Int)) := Cm.div (by omega) (Nat.dvd_refl _) (by show 1 ≤ _; omega)
      have := (c2.mul c3).d
      exact Nat.dvd_trans this ⟨2, by rw [Nat.mul_comm (L * _) 2, Nat.mul_assoc]⟩
    · have := bd_div (x := -x) (B := (B : Rat)) T0 (by grind)
      grind
section
variable {P : Program} {w : World} {K : PySem.W.Frag} {mg : Str → Option Value} {base : Heap} {A : Adr}
theorem rep_frx (n : Nat) (x : Rat) : (List.replicate n [fr x]).flatten = (List.replicate n x).map fr := by
  rw [List.map_replicate]
  simp
noncomputable def strch (ms : List Mk) (f l : Nat) : List Mk := (ms.take (l + 1)).drop f
theorem kds_ok {kd : Str} (h : kd ∈ kdsL) : PyData.strOk kd = true := by
  have : kd = "far" ∨ kd = "sum" ∨ kd = "square" := by simpa [kdsL] using h
  rcases this with rfl | rfl | rfl <;> decide +kernel
noncomputable def wCost : DW := fun ds Q _ => ∃ (kd : Str) (ms : List Mk) (L f l : Nat), ds = [.str kd, .list (ms.map mk3), .int (f : Int), .int (l : Int)] ∧ kd ∈ kdsL ∧ f ≤ l ∧ l < ms.length ∧ ms.length ≤ 60 ∧ 0 < L ∧ L ≤ 10 ^ 100 ∧ (∀ m ∈ ms, Cm L (10 ^ 100) m.2.1) ∧ (∀ m ∈ ms, 1 ≤ m.2.2 ∧ m.2.2 ≤ 10 ^ 100) ∧
  ∀ x, LevelOk kd (strch ms f l) x → Q (.dat (fr (meas kd (strch ms f l) (List.replicate (strch ms f l).length x))))
theorem ok_stretch_cost (T : Txt K mg A) : FnOk P w K mg base (CXE P w) 7 A.a_stretch_cost A.d_stretch_cost ["kind", "marks", "first", "last"] (spW K wCost) := by
  have G_check_kind := ok_check_kind (P := P) (w := w) (base := base) T
  have G_least_level := ok_least_level (P := P) (w := w) (base := base) T
  have G_measured := ok_measured (P := P) (w := w) (base := base) T
  refine okW T.F_stretch_cost sc_stretch_cost (fun ds Q E h => ?_) (fun cdv Ar outer s H E hr => ?_)
  · obtain ⟨_, _, _, _, _, rfl, _⟩ := h; rfl
  refine ⟨_, (pss_cons (ps_expr (pe_call G_check_kind (hr.mono (by decide)) rfl T.m_check_kind T.F_check_kind.kp T.b_check_kind .nil pass_own (pa_cons (pv 0) pa_nil)))
      (pss_cons (ps_set (i := 4) sc_stretch_cost.nd rfl (Or.inl rfl) (pe_slice (sllK (K := K) rfl) (pv 1) (po_some (pv 2)) (po_some (pe_op op_add (pv 3) pe_int))))
      (pss_one (ps_ret (pe_call G_measured (hr.mono (by decide)) rfl T.m_measured T.F_measured.kp T.b_measured .nil passE0 (pa_cons (pv 0) (pa_cons (pv 4) (pa_cons (pe_op op_rep (pe_lst (pa_cons (pe_call G_least_level (hr.mono (by decide)) rfl T.m_least_level T.F_least_level.kp T.b_least_level .nil passE0 (pa_cons (pv 0) (pa_cons (pv 4) pa_nil))) pa_nil)) (pe_callB (lenK (K := K) rfl) rfl T.n_len PySem.boot_len (pa_cons (pv 4) pa_nil))) pa_nil)))))))), _, (sv_seq (sv_expr (bv_ev (ev_call (av_cons (bv_var 0) av_nil))))
      (sv_seq (sv_setO 4 (ov_sl (lv_var 1) (op_part (bv_var 2)) (op_part (bv_ev (ev_op ro_i0 (bv_var 3) (bv_ev ev_int))))))
      (sv_ret (bv_ev (ev_call0 (av_cons (bv_var 0) (av_cons (bv_var 4) (av_cons (bv_ev (ev_ov (ov_rep (mv_ov (ov_lst (ae_cons (ev_call0 (av_cons (bv_var 0) (av_cons (bv_var 4) av_nil))) ae_nil) (by decide))) (bv_ev (ev_cb rb_len (av_cons (bv_var 4) av_nil)))))) av_nil)))))))), ?_⟩
  rintro ds Q X ⟨kd, ms, L, f, l, rfl, hkd, hfl, hl, n60, L0, L1, hc, hw, k⟩
  walk_at "s"
  refine ⟨.str kd, rfl, fun k' e => by cases e; exact kds_ok hkd, fun _ => ?_, fun h => absurd hkd (h _ rfl)⟩
  walk_at "s"
  obtain ⟨S, hS⟩ : ∃ S, strch ms f l = S := ⟨_, rfl⟩
  have eS : cutL (ms.map mk3) (some (f : Int)) (some ((l : Int) + 1)) = S.map mk3 := by
    rw [cutL_map, ← hS]
    unfold cutL strch
    rw [show (l : Int) + 1 = ((l + 1 : Nat) : Int) by omega, HT.sIx_nat, HT.sIx_nat, List.drop_take, Nat.min_eq_left (by omega), Nat.min_eq_left (by omega)]
  rw [hS] at k
  rw [eS]
  have Sl : S.length = l + 1 - f := by rw [← hS, strch, List.length_drop, List.length_take]; omega
  have Sm : ∀ m ∈ S, m ∈ ms := fun m h => by rw [← hS] at h; exact List.mem_of_mem_take (List.mem_of_mem_drop h)
  have Sne : S ≠ [] := fun e => by rw [e, List.length_nil] at Sl; omega
  have Sc : ∀ m ∈ S, Cm L (10 ^ 100) m.2.1 := fun m h => hc m (Sm m h)
  have Sw : ∀ m ∈ S, 1 ≤ m.2.2 ∧ m.2.2 ≤ 10 ^ 100 := fun m h => hw m (Sm m h)
  refine ⟨kd, S, L, rfl, hkd, by omega, by omega, L0, L1, Sc, Sw, fun x hx => ⟨rfl, ?_⟩⟩
  dsimp only
  rw [List.length_map, Int.toNat_natCast, rep_frx]
  have wp := wsum_pos Sne fun m h => (Sw m h).1
  have wl : wsum S ≤ 60 * 10 ^ 100 := by
    have h1 := wsum_le (W := 10 ^ 100) fun m h => (Sw m h).2
    have h2 : (S.length : Int) * 10 ^ 100 ≤ 60 * 10 ^ 100 := Int.mul_le_mul_of_nonneg_right (by omega) (by decide +kernel)
    omega
  have wn : (wsum S).toNat ≤ 60 * 10 ^ 100 := by omega
  have cx := level_cm hkd hx Sne Sc fun m h => (Sw m h).1
  have dl : L ∣ 2 * L * (wsum S).toNat := ⟨2 * (wsum S).toNat, by rw [Nat.mul_comm 2 L, Nat.mul_assoc]⟩
  refine ⟨⟨by omega, by omega⟩, by omega, ?_⟩
  refine ⟨.str kd, S, List.replicate S.length x, 2 * L * (wsum S).toNat, 10 ^ 100, 10 ^ 100, 203, 100, 100, rfl, ⟨by omega, ?_, ?_, Nat.le_refl _, Nat.le_refl _, fun m h => (Sc m h).mono dl (Nat.le_refl _), fun q hq => ?_, fun m h => ?_, by decide⟩, Sne, List.length_replicate, fun k' e => by cases e; exact kds_ok hkd, fun k' e hk' => ?_, fun h => absurd hkd (h _ rfl)⟩
  · exact Nat.mul_pos (by omega) (by omega)
  · exact Nat.le_trans (Nat.mul_le_mul (Nat.mul_le_mul_left 2 L1) wn) (by decide +kernel)
  · rw [List.eq_of_mem_replicate hq]; exact cx
  · have := Sw m h; omega
  · cases e
    exact ⟨rfl, k x hx⟩
end
noncomputable def cst (zs : List Pr) (b : Rat) : Rat := tot (zs.map fun z => z.2 * absR (z.1 - b))
theorem fsum_cons (p : Pr → Bool) (z : Pr) (zs : List Pr) : fsum p (z :: zs) = (if p z = true then z.2 else 0) + fsum p zs := by
  have e : fsum p (z :: zs) = fsum p [z] + fsum p zs := fsum_app p [z] zs
  rw [e]
  by_cases c : p z = true
  · rw [if_pos c]; simp [fsum, c, tot, Rat.add_zero]
  · rw [if_neg c]; simp [fsum, c, tot]
theorem cst_up {x b : Rat} (hxb : x ≤ b) : ∀ {zs : List Pr}, (∀ z ∈ zs, 0 ≤ z.2) → cst zs x + (b - x) * (fsum (fun z => decide (z.1 ≤ x)) zs + fsum (fun z => decide (z.1 ≤ x)) zs - tot (zs.map (·.2))) ≤ cst zs b
  | [], _ => by simp [cst, fsum, tot]; grind
  | z :: zs, h => by
    have ih := cst_up hxb (zs := zs) fun y hy => h y (List.mem_cons_of_mem _ hy)
    have hz := h z List.mem_cons_self
    have e1 : ∀ t, cst (z :: zs) t = z.2 * absR (z.1 - t) + cst zs t := fun t => rfl
    rw [e1, e1, fsum_cons, List.map_cons, tot]
    generalize fsum (fun z => decide (z.1 ≤ x)) zs = F at *
    generalize tot (zs.map (·.2)) = W at *
    by_cases c : z.1 ≤ x
    · rw [if_pos (by simpa using c), absR_neg (show z.1 - x ≤ 0 by grind), absR_neg (show z.1 - b ≤ 0 by grind)]
      grind
    · rw [if_neg (by simpa using c), absR_pos (show 0 ≤ z.1 - x by grind)]
      have h1 : z.1 - b ≤ absR (z.1 - b) := by rcases absR_cases (z.1 - b) with ⟨_, e⟩ | ⟨_, e⟩ <;> rw [e] <;> grind
      have h2 := Rat.mul_nonneg hz (show 0 ≤ absR (z.1 - b) - (z.1 - b) by grind)
      grind
theorem cst_down {x b : Rat} (hxb : b ≤ x) : ∀ {zs : List Pr}, (∀ z ∈ zs, 0 ≤ z.2) → cst zs x + (x - b) * (tot (zs.map (·.2)) - (fsum (fun z => decide (z.1 < x)) zs + fsum (fun z => decide (z.1 < x)) zs)) ≤ cst zs b
  | [], _ => by simp [cst, fsum, tot]; grind
  | z :: zs, h => by
    have ih := cst_down hxb (zs := zs) fun y hy => h y (List.mem_cons_of_mem _ hy)
    have hz := h z List.mem_cons_self
    have e1 : ∀ t, cst (z :: zs) t = z.2 * absR (z.1 - t) + cst zs t := fun t => rfl
    rw [e1, e1, fsum_cons, List.map_cons, tot]
    generalize fsum (fun z => decide (z.1 < x)) zs = F at *
    generalize tot (zs.map (·.2)) = W at *
    by_cases c : z.1 < x
    · rw [if_pos (by simpa using c), absR_neg (show z.1 - x ≤ 0 by grind)]
      have h1 : -(z.1 - b) ≤ absR (z.1 - b) := by rcases absR_cases (z.1 - b) with ⟨_, e⟩ | ⟨_, e⟩ <;> rw [e] <;> grind
      have h2 := Rat.mul_nonneg hz (show 0 ≤ absR (z.1 - b) + (z.1 - b) by grind)
      grind
    · rw [if_neg (by simpa using c), absR_pos (show 0 ≤ z.1 - x by grind), absR_pos (show 0 ≤ z.1 - b by grind)]
      grind
theorem mid_least {zs : List Pr} {x : Rat} (nn : ∀ z ∈ zs, 0 ≤ z.2) (M : Mid zs x) (b : Rat) : cst zs x ≤ cst zs b := by
  rcases Rat.le_total (a := x) (b := b) with h | h
  · have h1 := cst_up h nn
    have h2 := Rat.mul_nonneg (show 0 ≤ b - x by grind) (show 0 ≤ fsum (fun z => decide (z.1 ≤ x)) zs + fsum (fun z => decide (z.1 ≤ x)) zs - tot (zs.map (·.2)) by have := M.hi; grind)
    grind
  · have h1 := cst_down h nn
    have h2 := Rat.mul_nonneg (show 0 ≤ x - b by grind) (show 0 ≤ tot (zs.map (·.2)) - (fsum (fun z => decide (z.1 < x)) zs + fsum (fun z => decide (z.1 < x)) zs) by have := M.lo; grind)
    grind
theorem far_cost {hs : List Rat} {a b : Rat} (ha : a ∈ hs) (hla : ∀ r ∈ hs, r ≤ a) (hlb : ∀ r ∈ hs, b ≤ r) : maxR ((hs.map fun h => h - half0 * (a + b)).map absR) = half0 * (a - b) := by
  have e1 := half0_dbl a
  have e2 := half0_dbl b
  have ea : half0 * (a + b) = half0 * a + half0 * b := Rat.mul_add ..
  have es : half0 * (a - b) = half0 * a - half0 * b := by rw [Rat.sub_eq_add_neg, Rat.mul_add, Rat.mul_neg, Rat.sub_eq_add_neg]
  have hab := hlb a ha
  have h0 : (0 : Rat) ≤ half0 := by decide +kernel
  have nn := Rat.mul_nonneg h0 (show 0 ≤ a - b by grind)
  have top : absR (a - half0 * (a + b)) = half0 * (a - b) := by
    have : a - half0 * (a + b) = half0 * (a - b) := by grind
    rw [this]; exact absR_pos nn
  refine (maxR_eq nn (.inr ?_) fun q hq => ?_).symm
  · exact List.mem_map.mpr ⟨_, List.mem_map.mpr ⟨a, ha, rfl⟩, top⟩
  · obtain ⟨y, hy, rfl⟩ := List.mem_map.mp hq
    obtain ⟨h, hh, rfl⟩ := List.mem_map.mp hy
    have h1 := hla h hh
    have h2 := hlb h hh
    rcases absR_cases (h - half0 * (a + b)) with ⟨_, e⟩ | ⟨_, e⟩ <;> rw [e] <;> grind
noncomputable def sq2 (ms : List Mk) : Rat := tot (ms.map fun m => (m.2.2 : Rat) * m.2.1 * m.2.1)
theorem sq_cost (x : Rat) : ∀ ms : List Mk, tot (ms.map fun m => (m.2.2 : Rat) * (m.2.1 - x) * (m.2.1 - x)) = sq2 ms - (x + x) * umix ms + x * x * (wsum ms : Rat)
  | [] => by
    have e : umix [] = 0 := rfl
    have e2 : ((wsum [] : Int) : Rat) = 0 := rfl
    rw [e, e2]; simp [sq2, tot]; grind
  | m :: ms => by
    have ih := sq_cost x ms
    have e : sq2 (m :: ms) = (m.2.2 : Rat) * m.2.1 * m.2.1 + sq2 ms := rfl
    rw [List.map_cons, tot, ih, e, umix_cons, wsum, Rat.intCast_add]
    grind
theorem sq_least {x : Rat} {ms : List Mk} (h : x * (wsum ms : Rat) = umix ms) : (sq2 ms - (x + x) * umix ms + x * x * (wsum ms : Rat)) * (wsum ms : Rat) = (wsum ms : Rat) * sq2 ms - umix ms * umix ms := by
  rw [← h]
  grind
noncomputable def cellF (ns : List Int) (k : Int) : Int := if k < (ns.length : Int) then ns.getD k.toNat default else 5 * k * k + 11 * k + 2
theorem cellF_bg {ns : List Int} (h : ∀ v ∈ ns, Builtin.Int.intBits v ≤ 1048576) {k : Int} (h0 : 0 ≤ k) (h1 : k ≤ 1000) : Bg 1048577 (cellF ns k) := by
  unfold cellF
  split
  · exact Bg.of (getD_all (p := fun v => Builtin.Int.intBits v ≤ 1048576) h (by decide))
  · refine Bg.small ?_ (by decide)
    have h2 : 5 * k * k ≤ 5000 * 1000 := Int.mul_le_mul (by omega) h1 h0 (by omega)
    have h3 : 0 ≤ 5 * k * k := Int.mul_nonneg (by omega) h0
    omega
section
variable {P : Program} {w : World} {K : PySem.W.Frag} {mg : Str → Option Value} {base : Heap} {A : Adr}
noncomputable def wCell : DW := fun ds Q _ => ∃ (ns : List Int) (k : Int), ds = [.list (ns.map .int), .int k] ∧ 0 ≤ k ∧ k ≤ 1000 ∧ Q (.dat (.int (cellF ns k)))
theorem ok_law_cell (T : Txt K mg A) : FnOk P w K mg base (CXE P w) 1 A.a_law_cell A.d_law_cell ["script", "k"] (spW K wCell) := by
  refine okW T.F_law_cell sc_law_cell (fun ds Q E h => ?_) (fun cdv Ar outer s H E hr => ?_)
  · obtain ⟨_, _, rfl, _⟩ := h; rfl
  refine ⟨_, (pss_cons (ps_if (pt_cmpR op_lt (pv 1) (pe_callB (lenK (K := K) rfl) rfl T.n_len PySem.boot_len (pa_cons (pv 0) pa_nil)) (nomark _)) (pss_one (ps_ret (pe_ix (ixlK (K := K) rfl) (pv 0) (pv 1) (fun _ _ => rfl)))) pss_nil)
      (pss_one (ps_ret (pe_op op_add (pe_op op_add (pe_op op_mulB (pe_op op_mulB pe_int (pv 1)) (pv 1)) (pe_op op_mulB pe_int (pv 1))) pe_int)))), _, (sv_seq (sv_if (tv_test (bv_ev (ev_op ro_b0 (bv_var 1) (bv_ev (ev_cb rb_len (av_cons (bv_var 0) av_nil)))))) (sv_ret (bv_ev (ev_ixl (lv_var 0) (bv_var 1)))) sv_next)
      (sv_ret (bv_ev (ev_op ro_i0 (bv_ev (ev_op ro_i0 (bv_ev (ev_op ro_i (bv_ev (ev_op ro_i (bv_ev ev_int) (bv_var 1))) (bv_var 1))) (bv_ev (ev_op ro_i (bv_ev ev_int) (bv_var 1))))) (bv_ev ev_int))))), ?_⟩
  rintro ds Q X ⟨ns, k, rfl, h0, h1, kq⟩
  unfold cellF at kq
  walk_at "s"
  refine ite2 (fun c => ?_) (fun c => ?_)
  · rw [if_pos c] at kq
    exact ⟨_, atI_mk PyData.int h0 c, kq⟩
  · rw [if_neg c] at kq
    walk_at "d"
    exact ⟨mulOk (wee (by decide +kernel)) (weeLe (n := 1000) (by omega) (by decide +kernel)), mulOk (weeLe (n := 5000) (by omega) (by decide +kernel)) (weeLe (n := 1000) (by omega) (by decide +kernel)), mulOk (wee (by decide +kernel)) (weeLe (n := 1000) (by omega) (by decide +kernel)), kq⟩
noncomputable def wLow : DW := fun ds Q _ => ∃ t b : Int, ds = [.int t, .int b] ∧ 1 ≤ b ∧ Wee b ∧ Q (.dat (fr (Rat.divInt t b)))
theorem ok_law_lowest (T : Txt K mg A) : FnOk P w K mg base (CXE P w) 1 A.a_law_lowest A.d_law_lowest ["top", "bottom"] (spW K wLow) := by
  refine okW T.F_law_lowest sc_law_lowest (fun ds Q E h => ?_) (fun cdv Ar outer s H E hr => ?_)
  · obtain ⟨_, _, rfl, _⟩ := h; rfl
  refine ⟨_, (pss_cons (ps_set (i := 2) sc_law_lowest.nd rfl (Or.inl rfl) (pe_callB call_abs rfl T.n_abs bt_abs (pa_cons (pv 0) pa_nil)))
      (pss_cons (ps_set (i := 3) sc_law_lowest.nd rfl (Or.inl rfl) (pv 1))
      (pss_cons (ps_while PassesOwn.leaving (pt_cmpR op_gt (pv 3) pe_int (nomark _)) (pss_one (ps_par (i := 2) (j := 3) rfl sc_law_lowest.nd rfl rfl (by decide) rfl rfl (pa_cons (pv 3) (pa_cons (pe_op op_mod (pv 2) (pv 3)) pa_nil)) rfl)))
      (pss_one (ps_ret (pe_tup (pa_cons (pe_op op_fdivB (pv 0) (pv 2)) (pa_cons (pe_op op_fdivB (pv 1) (pv 2)) pa_nil)))))))), _, (sv_seq (sv_asg (ev_cb rb_abs (av_cons (bv_var 0) av_nil)) (gv_name 2))
      (sv_seq (sv_asg (ev_var 1) (gv_name 3))
      (sv_seq (sv_while (tv_test (bv_ev (ev_op ro_b0 (bv_var 3) (bv_ev ev_int)))) (sv_par 2 3 (ae_cons (ev_var 3) (ae_cons (ev_op ro_i (bv_var 2) (bv_var 3)) ae_nil))))
      (sv_ret (bv_ev (ev_tup (ae_cons (ev_op ro_i (bv_var 0) (bv_var 2)) (ae_cons (ev_op ro_i (bv_var 1) (bv_var 2)) ae_nil)) (by decide))))))), ?_⟩
  rintro ds Q X ⟨t, b, rfl, hb, hw, k⟩
  walk_at "s"
  walk_at "s"
  refine seq_mk ?_
  refine ⟨fun m δ => ∃ x y : Int, δ = [some (.dat (.int t)), some (.dat (.int b)), some (.dat (.int x)), some (.dat (.int y))] ∧ m = y.toNat ∧ 0 ≤ x ∧ 0 ≤ y ∧ Int.gcd x y = Int.gcd t b, ⟨_, _, b, rfl, rfl, by split <;> omega, by omega, by rw [Fm.abs_if]; simp [Int.gcd]⟩, ?_⟩
  rintro m δ ⟨x, y, rfl, rfl, hx, hy, hg⟩
  walk_at "d"
  refine ite2 (fun c => ?_) (fun c => ?_)
  · refine ⟨c, _, ?_, y, x % y, rfl, rfl, hy, Int.emod_nonneg _ (by omega), ?_⟩
    · have := Int.emod_lt_of_pos x c
      have := Int.emod_nonneg x (show y ≠ 0 by omega)
      omega
    · rw [Fm.gcd_step x y c, hg]
  · have hy0 : y = 0 := by omega
    subst hy0
    have ex : x = ((Int.gcd t b : Nat) : Int) := by rw [← hg, Fm.gcd_zero hx]
    have g0 : (0 : Int) < ((Int.gcd t b : Nat) : Int) := by have := Fm.gcd_pos_right (a := t) (b := b) (by omega); omega
    have gw : Wee ((Int.gcd t b : Nat) : Int) := wee_nat (Fm.gcd_le_right (a := t) (b := b) (by omega)) hw
    obtain ⟨e1, e2⟩ := Fm.fr_pos (t := t) (b := b) (by omega)
    rw [ex]
    refine ⟨⟨g0, gw⟩, ⟨g0, gw⟩, ?_⟩
    rw [e1, e2]
    exact k
noncomputable def wWhole : DW := fun ds Q _ => ∃ i : Int, ds = [.int i] ∧ Q (.dat (.bool true))
theorem ok_law_whole (T : Txt K mg A) : FnOk P w K mg base (CXE P w) 1 A.a_law_whole A.d_law_whole ["thing"] (spW K wWhole) := by
  refine okW T.F_law_whole sc_law_whole (fun ds Q E h => ?_) (fun cdv Ar outer s H E hr => ?_)
  · obtain ⟨_, rfl, _⟩ := h; rfl
  refine ⟨_, (pss_one (ps_ret (pe_and (pe_callB (isiDK (K := K) rfl) rfl T.n_isinstance bt_isinstance (pa_cons (pv 0) (pa_cons (pe_bltn rfl T.n_int bt_int (show RelV (.ty "int") (.type "int") from rfl)) pa_nil))) (pe_one (pe_not (pe_callB (isiDK (K := K) rfl) rfl T.n_isinstance bt_isinstance (pa_cons (pv 0) (pa_cons (pe_bltn rfl T.n_bool bt_bool (show RelV (.ty "bool") (.type "bool") from rfl)) pa_nil)))))))), _, (sv_ret (bv_ev (ev_and (bv_ev (ev_isi (by decide) (bv_var 0))) (ev_not (bv_ev (ev_isi (by decide) (bv_var 0))))))), ?_⟩
  rintro ds Q X ⟨i, rfl, k⟩
  walk_at "d"
  rw [if_pos (by decide)]
  exact k
noncomputable def wFrac : DW := fun ds Q _ => ∃ q : Rat, ds = [fr q] ∧ Q (.dat (.bool true))
theorem ok_law_fraction (T : Txt K mg A) : FnOk P w K mg base (CXE P w) 2 A.a_law_fraction A.d_law_fraction ["found"] (spW K wFrac) := by
  have G_law_whole := ok_law_whole (P := P) (w := w) (base := base) T
  refine okW T.F_law_fraction sc_law_fraction (fun ds Q E h => ?_) (fun cdv Ar outer s H E hr => ?_)
  · obtain ⟨_, rfl, _⟩ := h; rfl
  refine ⟨_, (pss_one (ps_ret (pe_and (pe_callB (isiDK (K := K) rfl) rfl T.n_isinstance bt_isinstance (pa_cons (pv 0) (pa_cons (pe_bltn rfl T.n_tuple bt_tuple (show RelV (.ty "tuple") (.type "tuple") from rfl)) pa_nil))) (pe_and (pe_cmpR op_eq (pe_callB (lenK (K := K) rfl) rfl T.n_len PySem.boot_len (pa_cons (pv 0) pa_nil)) pe_int (nomark _)) (pe_and (pe_call G_law_whole (hr.mono (by decide)) rfl T.m_law_whole T.F_law_whole.kp T.b_law_whole .nil passE0 (pa_cons (pe_ix (ixtK (K := K) rfl) (pv 0) pe_int (fun _ _ => rfl)) pa_nil)) (pe_one (pe_call G_law_whole (hr.mono (by decide)) rfl T.m_law_whole T.F_law_whole.kp T.b_law_whole .nil passE0 (pa_cons (pe_ix (ixtK (K := K) rfl) (pv 0) pe_int (fun _ _ => rfl)) pa_nil)))))))), _, (sv_ret (bv_ev (ev_and (bv_ev (ev_isi (by decide) (bv_var 0))) (ev_and (bv_ev (ev_op ro_eq (bv_ev (ev_cb rb_len (av_cons (bv_var 0) av_nil))) (bv_ev ev_int))) (ev_and (bv_ev (ev_call0 (av_cons (bv_ev (ev_ixk 0 (ev_var 0))) av_nil))) (ev_call0 (av_cons (bv_ev (ev_ixk 1 (ev_var 0))) av_nil))))))), ?_⟩
  rintro ds Q X ⟨q, rfl, k⟩
  walk_at "d"
  rw [if_pos (by decide)]
  walk_at "d"
  refine ⟨_, rfl, ?_⟩
  walk_at "d"
  refine ⟨_, rfl, ?_⟩
  walk_at "d"
  exact k
noncomputable def wInts61 (p : Int → Prop) : DW := fun ds Q _ => ∃ (ns : List Int) (n : Nat), ds = [.list (ns.map .int), .int (n : Int)] ∧ 1 ≤ n ∧ n ≤ 12 ∧ (∀ v ∈ ns, Builtin.Int.intBits v ≤ 1048576) ∧ ∀ hs : List Int, hs.length = n → (∀ h ∈ hs, p h) → Q (.own (hs.map .int))
theorem ok_law_heights (T : Txt K mg A) : FnOk P w K mg base (CXE P w) 2 A.a_law_heights A.d_law_heights ["script", "many"] (spW K (wInts61 fun h => h.natAbs ≤ 10 ^ 12)) := by
  have G_law_cell := ok_law_cell (P := P) (w := w) (base := base) T
  refine okW T.F_law_heights sc_law_heights (fun ds Q E h => ?_) (fun cdv Ar outer s H E hr => ?_)
  · obtain ⟨_, _, rfl, _⟩ := h; rfl
  refine ⟨_, (pss_cons (ps_set (i := 2) sc_law_heights.nd rfl (Or.inl rfl) (pe_lst pa_nil))
      (pss_cons (ps_for PassesOwn.leaving rfl (pi_range1 rfl T.n_range (pa_cons (pv 1) pa_nil)) (pg_name (i := 3) sc_law_heights.nd rfl (Or.inl rfl))
        (pss_cons (ps_set (i := 4) sc_law_heights.nd rfl (Or.inl rfl) (pe_call G_law_cell (hr.mono (by decide)) rfl T.m_law_cell T.F_law_cell.kp T.b_law_cell .nil passE0 (pa_cons (pv 0) (pa_cons (pe_op op_add pe_int (pe_op op_mulB pe_int (pv 3))) pa_nil))))
      (pss_one (ps_if (pt_cmpR op_eq (pe_op op_mod (pe_call G_law_cell (hr.mono (by decide)) rfl T.m_law_cell T.F_law_cell.kp T.b_law_cell .nil passE0 (pa_cons (pv 0) (pa_cons pe_int pa_nil))) pe_int) pe_int (nomark _)) (pss_one (ps_expr (pe_bm PySem.F.plainAttrs_list PySem.F.slot_list_append PySem.F.type_list_append mt_append (pv 2) (pa_cons (pe_op op_sub (pe_op op_mod (pe_op op_mulB (pv 4) pe_int) (pe_op op_add (pe_op op_mulB pe_int (pe_op op_pow pe_int pe_int)) pe_int)) (pe_op op_pow pe_int pe_int)) pa_nil)))) (pss_one (ps_expr (pe_bm PySem.F.plainAttrs_list PySem.F.slot_list_append PySem.F.type_list_append mt_append (pv 2) (pa_cons (pe_op op_sub (pe_op op_mod (pv 4) pe_int) pe_int) pa_nil))))))))
      (pss_one (ps_ret (pv 2))))), _, (sv_seq (sv_setO 2 (ov_lst ae_nil (by decide)))
      (sv_seq (sv_for (is_rng1 (av_cons (bv_var 1) av_nil)) (gv_name 3)
        (sv_seq (sv_asg (ev_call0 (av_cons (bv_var 0) (av_cons (bv_ev (ev_op ro_i0 (bv_ev ev_int) (bv_ev (ev_op ro_i (bv_ev ev_int) (bv_var 3))))) av_nil))) (gv_name 4))
      (sv_if (tv_test (bv_ev (ev_op ro_eq (bv_ev (ev_mdk (k := 3) (by decide) (bv_ev (ev_call0 (av_cons (bv_var 0) (av_cons (bv_ev ev_int) av_nil)))) ev_int)) (bv_ev ev_int)))) (sv_app 2 (ev_op ro_i0 (bv_ev (ev_mdk (k := 2000000000001) (by decide) (bv_ev (ev_op ro_i (bv_var 4) (bv_ev ev_int))) (ev_k (v := 2000000000001) (ev_op ro_i0 (bv_ev (ev_op ro_i (bv_ev ev_int) (bv_ev (ev_op ro_i (bv_ev ev_int) (bv_ev ev_int))))) (bv_ev ev_int)) (fun ex δ Q h => ⟨cpow (by decide +kernel), mulOk (wee (by decide +kernel)) (wee (by decide +kernel)), Eq.mpr (congrArg (fun z => Q (.int z)) (by decide +kernel : (((2 * (10 ^ Int.toNat 12)) + 1) : Int) = 2000000000001)) h⟩)))) (bv_ev (ev_k (v := 1000000000000) (ev_op ro_i (bv_ev ev_int) (bv_ev ev_int)) (fun ex δ Q h => ⟨cpow (by decide +kernel), Eq.mpr (congrArg (fun z => Q (.int z)) (by decide +kernel : ((10 ^ Int.toNat 12) : Int) = 1000000000000)) h⟩))))) (sv_app 2 (ev_op ro_i0 (bv_ev (ev_mdk (k := 9) (by decide) (bv_var 4) ev_int)) (bv_ev ev_int))))))
      (sv_retV 2))), ?_⟩
  rintro ds Q X ⟨ns, n, rfl, n1, n12, hbits, k⟩
  have bg : ∀ j : Int, 0 ≤ j → j ≤ 1000 → Bg 1048577 (cellF ns j) := fun j h0 h1 => cellF_bg hbits h0 h1
  walk_at "s"
  refine seq_mk (for_rng (lo := 0) (st := 1) (n := n) (fun Q h => by
      walk_at "d"
      refine ⟨by omega, ?_⟩
      rw [Int.toNat_natCast]; exact h)
    (fun i δ => ∃ (hs : List Int) (t1 t2 : Option Sl), δ = [some (.dat (.list (ns.map .int))), some (.dat (.int (n : Int))), some (.own (hs.map .int)), t1, t2] ∧ hs.length = i ∧ ∀ h ∈ hs, h.natAbs ≤ 10 ^ 12)
    ⟨[], _, _, rfl, rfl, fun h z => nomatch z⟩ ?_ ?_)
  · rintro i δ hi ⟨hs, t1, t2, rfl, hl, hb⟩
    obtain ⟨kk, hk⟩ : ∃ kk : Int, (0 : Int) + (i : Int) * 1 = kk := ⟨_, rfl⟩
    rw [hk]
    have fin : ∀ v : Int, v.natAbs ≤ 10 ^ 12 → ∀ h ∈ hs ++ [v], h.natAbs ≤ 10 ^ 12 := fun v hv h hh => by
      rcases List.mem_append.mp hh with z | z
      · exact hb h z
      · rw [List.mem_singleton.mp z]; exact hv
    have fl : ∀ v : Int, (hs ++ [v]).length = i + 1 := fun v => by rw [List.length_append, hl]; rfl
    have bc := bg (4 + 2 * kk) (by omega) (by omega)
    walk_at "s"
    refine ⟨mulOk (wee (by decide +kernel)) (weeLe (n := 20) (by omega) (by decide +kernel)), ns, 4 + 2 * kk, rfl, by omega, by omega, ?_⟩
    walk_at "d"
    generalize cellF ns (4 + 2 * kk) = c at *
    refine ⟨ns, 1, rfl, by decide, by decide, ?_⟩
    walk_at "d"
    refine ite2 (fun _ => ?_) (fun _ => ?_)
    · walk_at "d"
      refine ⟨mulOkBig (Nat.le_trans bc.bits (by decide)) (wee (by decide +kernel)), by omega, hs ++ [c * 48271 % 2000000000001 - 1000000000000], _, _, by rw [List.map_append]; rfl, fl _, fin _ (by omega)⟩
    · walk_at "d"
      refine ⟨by omega, hs ++ [c % 9 - 4], _, _, by rw [List.map_append]; rfl, fl _, fin _ (by omega)⟩
  · rintro δ ⟨hs, t1, t2, rfl, hl, hb⟩
    walk_at "d"
    exact k hs hl hb
theorem ok_law_weights (T : Txt K mg A) : FnOk P w K mg base (CXE P w) 2 A.a_law_weights A.d_law_weights ["script", "many"] (spW K (wInts61 fun h => 1 ≤ h ∧ h ≤ 10 ^ 9)) := by
  have G_law_cell := ok_law_cell (P := P) (w := w) (base := base) T
  refine okW T.F_law_weights sc_law_weights (fun ds Q E h => ?_) (fun cdv Ar outer s H E hr => ?_)
  · obtain ⟨_, _, rfl, _⟩ := h; rfl
  refine ⟨_, (pss_cons (ps_set (i := 2) sc_law_weights.nd rfl (Or.inl rfl) (pe_lst pa_nil))
      (pss_cons (ps_for PassesOwn.leaving rfl (pi_range1 rfl T.n_range (pa_cons (pv 1) pa_nil)) (pg_name (i := 3) sc_law_weights.nd rfl (Or.inl rfl))
        (pss_cons (ps_set (i := 4) sc_law_weights.nd rfl (Or.inl rfl) (pe_call G_law_cell (hr.mono (by decide)) rfl T.m_law_cell T.F_law_cell.kp T.b_law_cell .nil passE0 (pa_cons (pv 0) (pa_cons (pe_op op_add pe_int (pe_op op_mulB pe_int (pv 3))) pa_nil))))
      (pss_one (ps_if (pt_cmpR op_eq (pe_op op_mod (pe_call G_law_cell (hr.mono (by decide)) rfl T.m_law_cell T.F_law_cell.kp T.b_law_cell .nil passE0 (pa_cons (pv 0) (pa_cons pe_int pa_nil))) pe_int) pe_int (nomark _)) (pss_one (ps_expr (pe_bm PySem.F.plainAttrs_list PySem.F.slot_list_append PySem.F.type_list_append mt_append (pv 2) (pa_cons (pe_op op_add pe_int (pe_op op_mod (pe_op op_mulB (pv 4) pe_int) (pe_op op_pow pe_int pe_int))) pa_nil)))) (pss_one (ps_expr (pe_bm PySem.F.plainAttrs_list PySem.F.slot_list_append PySem.F.type_list_append mt_append (pv 2) (pa_cons (pe_op op_add pe_int (pe_op op_mod (pv 4) pe_int)) pa_nil))))))))
      (pss_one (ps_ret (pv 2))))), _, (sv_seq (sv_setO 2 (ov_lst ae_nil (by decide)))
      (sv_seq (sv_for (is_rng1 (av_cons (bv_var 1) av_nil)) (gv_name 3)
        (sv_seq (sv_asg (ev_call0 (av_cons (bv_var 0) (av_cons (bv_ev (ev_op ro_i0 (bv_ev ev_int) (bv_ev (ev_op ro_i (bv_ev ev_int) (bv_var 3))))) av_nil))) (gv_name 4))
      (sv_if (tv_test (bv_ev (ev_op ro_eq (bv_ev (ev_mdk (k := 4) (by decide) (bv_ev (ev_call0 (av_cons (bv_var 0) (av_cons (bv_ev ev_int) av_nil)))) ev_int)) (bv_ev ev_int)))) (sv_app 2 (ev_op ro_i0 (bv_ev ev_int) (bv_ev (ev_mdk (k := 1000000000) (by decide) (bv_ev (ev_op ro_i (bv_var 4) (bv_ev ev_int))) (ev_k (v := 1000000000) (ev_op ro_i (bv_ev ev_int) (bv_ev ev_int)) (fun ex δ Q h => ⟨cpow (by decide +kernel), Eq.mpr (congrArg (fun z => Q (.int z)) (by decide +kernel : ((10 ^ Int.toNat 9) : Int) = 1000000000)) h⟩)))))) (sv_app 2 (ev_op ro_i0 (bv_ev ev_int) (bv_ev (ev_mdk (k := 4) (by decide) (bv_var 4) ev_int)))))))
      (sv_retV 2))), ?_⟩
  rintro ds Q X ⟨ns, n, rfl, n1, n12, hbits, k⟩
  have bg : ∀ j : Int, 0 ≤ j → j ≤ 1000 → Bg 1048577 (cellF ns j) := fun j h0 h1 => cellF_bg hbits h0 h1
  walk_at "s"
  refine seq_mk (for_rng (lo := 0) (st := 1) (n := n) (fun Q h => by
      walk_at "d"
      refine ⟨by omega, ?_⟩
      rw [Int.toNat_natCast]; exact h)
    (fun i δ => ∃ (hs : List Int) (t1 t2 : Option Sl), δ = [some (.dat (.list (ns.map .int))), some (.dat (.int (n : Int))), some (.own (hs.map .int)), t1, t2] ∧ hs.length = i ∧ ∀ h ∈ hs, 1 ≤ h ∧ h ≤ 10 ^ 9)
    ⟨[], _, _, rfl, rfl, fun h z => nomatch z⟩ ?_ ?_)
  · rintro i δ hi ⟨hs, t1, t2, rfl, hl, hb⟩
    obtain ⟨kk, hk⟩ : ∃ kk : Int, (0 : Int) + (i : Int) * 1 = kk := ⟨_, rfl⟩
    rw [hk]
    have fin : ∀ v : Int, 1 ≤ v ∧ v ≤ 10 ^ 9 → ∀ h ∈ hs ++ [v], 1 ≤ h ∧ h ≤ 10 ^ 9 := fun v hv h hh => by
      rcases List.mem_append.mp hh with z | z
      · exact hb h z
      · rw [List.mem_singleton.mp z]; exact hv
    have fl : ∀ v : Int, (hs ++ [v]).length = i + 1 := fun v => by rw [List.length_append, hl]; rfl
    have bc := bg (5 + 2 * kk) (by omega) (by omega)
    walk_at "s"
    refine ⟨mulOk (wee (by decide +kernel)) (weeLe (n := 20) (by omega) (by decide +kernel)), ns, 5 + 2 * kk, rfl, by omega, by omega, ?_⟩
    walk_at "d"
    generalize cellF ns (5 + 2 * kk) = c at *
    refine ⟨ns, 1, rfl, by decide, by decide, ?_⟩
    walk_at "d"
    refine ite2 (fun _ => ?_) (fun _ => ?_)
    · walk_at "d"
      refine ⟨mulOkBig (Nat.le_trans bc.bits (by decide)) (wee (by decide +kernel)), by omega, hs ++ [1 + c * 16811 % 1000000000], _, _, by rw [List.map_append]; rfl, fl _, fin _ (by omega)⟩
    · walk_at "d"
      refine ⟨by omega, hs ++ [1 + c % 4], _, _, by rw [List.map_append]; rfl, fl _, fin _ (by omega)⟩
  · rintro δ ⟨hs, t1, t2, rfl, hl, hb⟩
    walk_at "d"
    exact k hs hl hb
noncomputable def wBottom61 : DW := fun ds Q _ => ∃ ns : List Int, ds = [.list (ns.map .int)] ∧ (∀ v ∈ ns, Builtin.Int.intBits v ≤ 1048576) ∧ ∀ b : Int, 1 ≤ b → b ≤ 10 ^ 6 → Q (.dat (.int b))
theorem ok_law_bottom (T : Txt K mg A) : FnOk P w K mg base (CXE P w) 2 A.a_law_bottom A.d_law_bottom ["script"] (spW K wBottom61) := by
  have G_law_cell := ok_law_cell (P := P) (w := w) (base := base) T
  refine okW T.F_law_bottom sc_law_bottom (fun ds Q E h => ?_) (fun cdv Ar outer s H E hr => ?_)
  · obtain ⟨_, rfl, _⟩ := h; rfl
  refine ⟨_, (pss_cons (ps_if (pt_cmpR op_eq (pe_op op_mod (pe_call G_law_cell (hr.mono (by decide)) rfl T.m_law_cell T.F_law_cell.kp T.b_law_cell .nil passE0 (pa_cons (pv 0) (pa_cons pe_int pa_nil))) pe_int) pe_int (nomark _)) (pss_one (ps_ret (pe_op op_add pe_int (pe_op op_mod (pe_op op_mulB (pe_call G_law_cell (hr.mono (by decide)) rfl T.m_law_cell T.F_law_cell.kp T.b_law_cell .nil passE0 (pa_cons (pv 0) (pa_cons pe_int pa_nil))) pe_int) (pe_op op_pow pe_int pe_int))))) pss_nil)
      (pss_one (ps_ret (pe_op op_add pe_int (pe_op op_mod (pe_op op_fdivB (pe_call G_law_cell (hr.mono (by decide)) rfl T.m_law_cell T.F_law_cell.kp T.b_law_cell .nil passE0 (pa_cons (pv 0) (pa_cons pe_int pa_nil))) pe_int) pe_int))))), _, (sv_seq (sv_if (tv_test (bv_ev (ev_op ro_eq (bv_ev (ev_mdk (k := 4) (by decide) (bv_ev (ev_call0 (av_cons (bv_var 0) (av_cons (bv_ev ev_int) av_nil)))) ev_int)) (bv_ev ev_int)))) (sv_ret (bv_ev (ev_op ro_i0 (bv_ev ev_int) (bv_ev (ev_mdk (k := 1000000) (by decide) (bv_ev (ev_op ro_i (bv_ev (ev_call0 (av_cons (bv_var 0) (av_cons (bv_ev ev_int) av_nil)))) (bv_ev ev_int))) (ev_k (v := 1000000) (ev_op ro_i (bv_ev ev_int) (bv_ev ev_int)) (fun ex δ Q h => ⟨cpow (by decide +kernel), Eq.mpr (congrArg (fun z => Q (.int z)) (by decide +kernel : ((10 ^ Int.toNat 6) : Int) = 1000000)) h⟩))))))) sv_next)
      (sv_ret (bv_ev (ev_op ro_i0 (bv_ev ev_int) (bv_ev (ev_mdk (k := 12) (by decide) (bv_ev (ev_dvk (k := 4) (cdiv (by decide +kernel)) (bv_ev (ev_call0 (av_cons (bv_var 0) (av_cons (bv_ev ev_int) av_nil)))) ev_int)) ev_int)))))), ?_⟩
  rintro ds Q X ⟨ns, rfl, hbits, k⟩
  have bc : Bg 1048577 (cellF ns 2) := cellF_bg hbits (by decide) (by decide)
  walk_at "s"
  refine ⟨ns, 2, rfl, by decide, by decide, ?_⟩
  walk_at "d"
  generalize hc : cellF ns 2 = c at *
  refine ite2 (fun _ => ?_) (fun _ => ?_)
  · walk_at "d"
    refine ⟨ns, 2, rfl, by decide, by decide, ?_⟩
    rw [hc]
    walk_at "d"
    exact ⟨mulOkBig (Nat.le_trans bc.bits (by decide)) (wee (by decide +kernel)), k _ (by omega) (by omega)⟩
  · walk_at "d"
    refine ⟨ns, 2, rfl, by decide, by decide, ?_⟩
    rw [hc]
    walk_at "d"
    exact k _ (by omega) (by omega)
theorem atI_it {ws : List Int} {k : Int} {j : Nat} (e : k = (j : Int)) (h : j < ws.length) : atI (ws.map PyData.int) k = some (.int (ws.getD j 0)) := by
  rw [atI_mk (xs := ws) PyData.int (by omega) (by omega), e, Int.toNat_natCast]
  rfl
noncomputable def wMarks61 : DW := fun ds Q _ => ∃ (ns hs ws : List Int) (b : Int), ds = [.list (ns.map .int), .list (hs.map .int), .list (ws.map .int), .int b] ∧ hs.length ≤ 12 ∧ ws.length = hs.length ∧ 1 ≤ b ∧ b ≤ 10 ^ 6 ∧ (∀ v ∈ ns, Builtin.Int.intBits v ≤ 1048576) ∧ ∀ ms : List Mk, ms.map (·.2) = List.zipWith (fun h v => (Rat.divInt h b, v)) hs ws → Q (.own (ms.map mk3))
theorem ok_law_marks (T : Txt K mg A) : FnOk P w K mg base (CXE P w) 2 A.a_law_marks A.d_law_marks ["script", "heights", "weights", "bottom"] (spW K wMarks61) := by
  have G_law_cell := ok_law_cell (P := P) (w := w) (base := base) T
  have G_law_lowest := ok_law_lowest (P := P) (w := w) (base := base) T
  refine okW T.F_law_marks sc_law_marks (fun ds Q E h => ?_) (fun cdv Ar outer s H E hr => ?_)
  · obtain ⟨_, _, _, _, rfl, _⟩ := h; rfl
  refine ⟨_, (pss_cons (ps_set (i := 4) sc_law_marks.nd rfl (Or.inl rfl) (pe_op op_sub (pe_op op_mod (pe_call G_law_cell (hr.mono (by decide)) rfl T.m_law_cell T.F_law_cell.kp T.b_law_cell .nil passE0 (pa_cons (pv 0) (pa_cons pe_int pa_nil))) pe_int) pe_int))
      (pss_cons (ps_set (i := 5) sc_law_marks.nd rfl (Or.inl rfl) (pe_lst pa_nil))
      (pss_cons (ps_for PassesOwn.leaving rfl (pi_range1 rfl T.n_range (pa_cons (pe_callB (lenK (K := K) rfl) rfl T.n_len PySem.boot_len (pa_cons (pv 1) pa_nil)) pa_nil)) (pg_name (i := 6) sc_law_marks.nd rfl (Or.inl rfl))
        (pss_cons (ps_set (i := 4) sc_law_marks.nd rfl (Or.inl rfl) (pe_op op_add (pe_op op_add (pv 4) pe_int) (pe_op op_mod (pe_op op_fdivB (pe_call G_law_cell (hr.mono (by decide)) rfl T.m_law_cell T.F_law_cell.kp T.b_law_cell .nil passE0 (pa_cons (pv 0) (pa_cons (pe_op op_add pe_int (pe_op op_mulB pe_int (pv 6))) pa_nil))) pe_int) pe_int)))
      (pss_cons (ps_set (i := 7) sc_law_marks.nd rfl (Or.inl rfl) (pe_call G_law_lowest (hr.mono (by decide)) rfl T.m_law_lowest T.F_law_lowest.kp T.b_law_lowest .nil passE0 (pa_cons (pv 4) (pa_cons (pe_op op_add pe_int (pe_op op_mod (pe_op op_fdivB (pe_call G_law_cell (hr.mono (by decide)) rfl T.m_law_cell T.F_law_cell.kp T.b_law_cell .nil passE0 (pa_cons (pv 0) (pa_cons pe_int pa_nil))) pe_int) pe_int)) pa_nil))))
      (pss_one (ps_expr (pe_bm PySem.F.plainAttrs_list PySem.F.slot_list_append PySem.F.type_list_append mt_append (pv 5) (pa_cons (pe_tup (pa_cons (pv 7) (pa_cons (pe_call G_law_lowest (hr.mono (by decide)) rfl T.m_law_lowest T.F_law_lowest.kp T.b_law_lowest .nil passE0 (pa_cons (pe_ix (ixlK (K := K) rfl) (pv 1) (pv 6) (fun _ _ => rfl)) (pa_cons (pv 3) pa_nil))) (pa_cons (pe_ix (ixlK (K := K) rfl) (pv 2) (pv 6) (fun _ _ => rfl)) pa_nil)))) pa_nil)))))))
      (pss_one (ps_ret (pv 5)))))), _, (sv_seq (sv_asg (ev_op ro_i0 (bv_ev (ev_mdk (k := 41) (by decide) (bv_ev (ev_call0 (av_cons (bv_var 0) (av_cons (bv_ev ev_int) av_nil)))) ev_int)) (bv_ev ev_int)) (gv_name 4))
      (sv_seq (sv_setO 5 (ov_lst ae_nil (by decide)))
      (sv_seq (sv_for (is_rng1 (av_cons (bv_ev (ev_cb rb_len (av_cons (bv_var 1) av_nil))) av_nil)) (gv_name 6)
        (sv_seq (sv_asg (ev_op ro_i0 (bv_ev (ev_op ro_i0 (bv_var 4) (bv_ev ev_int))) (bv_ev (ev_mdk (k := 7) (by decide) (bv_ev (ev_dvk (k := 4) (cdiv (by decide +kernel)) (bv_ev (ev_call0 (av_cons (bv_var 0) (av_cons (bv_ev (ev_op ro_i0 (bv_ev ev_int) (bv_ev (ev_op ro_i (bv_ev ev_int) (bv_var 6))))) av_nil)))) ev_int)) ev_int))) (gv_name 4))
      (sv_seq (sv_asg (ev_call0 (av_cons (bv_var 4) (av_cons (bv_ev (ev_op ro_i0 (bv_ev ev_int) (bv_ev (ev_mdk (k := 6) (by decide) (bv_ev (ev_dvk (k := 41) (cdiv (by decide +kernel)) (bv_ev (ev_call0 (av_cons (bv_var 0) (av_cons (bv_ev ev_int) av_nil)))) ev_int)) ev_int)))) av_nil))) (gv_name 7))
      (sv_app 5 (ev_tup (ae_cons (ev_var 7) (ae_cons (ev_call0 (av_cons (bv_ev (ev_ixl (lv_var 1) (bv_var 6))) (av_cons (bv_var 3) av_nil))) (ae_cons (ev_ixl (lv_var 2) (bv_var 6)) ae_nil))) (by decide))))))
      (sv_retV 5)))), ?_⟩
  rintro ds Q X ⟨ns, hs, ws, b, rfl, n12, wl, b1, b2, hbits, k⟩
  obtain ⟨zs, hzs⟩ : ∃ zs, List.zipWith (fun h v => (Rat.divInt h b, v)) hs ws = zs := ⟨_, rfl⟩
  rw [hzs] at k
  have zl : zs.length = hs.length := by rw [← hzs, List.length_zipWith]; omega
  walk_at "s"
  refine ⟨ns, 3, rfl, by decide, by decide, ?_⟩
  walk_at "s"
  refine seq_mk (for_rng (lo := 0) (st := 1) (n := hs.length) (fun Q h => by
      walk_at "d"
      refine ⟨by omega, ?_⟩
      rw [Int.toNat_natCast]; exact h)
    (fun i δ => ∃ (p : Int) (ms : List Mk) (t1 t2 : Option Sl), δ = [some (.dat (.list (ns.map .int))), some (.dat (.list (hs.map .int))), some (.dat (.list (ws.map .int))), some (.dat (.int b)), some (.dat (.int p)), some (.own (ms.map mk3)), t1, t2] ∧ ms.map (·.2) = zs.take i)
    ⟨_, [], _, _, rfl, rfl⟩ ?_ ?_)
  · rintro i δ hi ⟨p, ms, t1, t2, rfl, hm⟩
    obtain ⟨kk, hk⟩ : ∃ kk : Int, (0 : Int) + (i : Int) * 1 = kk := ⟨_, rfl⟩
    rw [hk]
    have ml : ms.length = i := by have := congrArg List.length hm; rw [List.length_map, List.length_take] at this; omega
    have a1 := atI_it (ws := hs) (k := kk) (j := i) (by omega) hi
    have a2 := atI_it (ws := ws) (k := kk) (j := i) (by omega) (by omega)
    have ez : zs[i]? = some (Rat.divInt (hs.getD i 0) b, ws.getD i 0) := by
      rw [← hzs, List.getElem?_zipWith]
      simp [List.getD, hi, show i < ws.length by omega]
    walk_at "s"
    refine ⟨mulOk (wee (by decide +kernel)) (weeLe (n := 20) (by omega) (by decide +kernel)), ns, 5 + 2 * kk, rfl, by omega, by omega, ?_⟩
    walk_at "d"
    walk_at "s"
    refine ⟨ns, 3, rfl, by decide, by decide, ?_⟩
    walk_at "d"
    generalize cellF ns (5 + 2 * kk) = c5
    generalize cellF ns 3 = c3
    have hb6 : 1 ≤ 1 + c3 / 41 % 6 ∧ 1 + c3 / 41 % 6 ≤ 6 := by omega
    generalize 1 + c3 / 41 % 6 = b6 at *
    generalize p + 1 + c5 / 4 % 7 = p2
    refine ⟨p2, b6, rfl, by omega, weeLe (n := 6) (by omega) (by decide +kernel), ?_⟩
    walk_at "d"
    refine ⟨_, a1, ?_⟩
    refine ⟨_, b, rfl, b1, weeLe (n := 10 ^ 6) (by omega) (by decide +kernel), rfl, ?_⟩
    refine ⟨_, a2, ?_⟩
    refine ⟨by omega, p2, ms ++ [(Rat.divInt p2 b6, Rat.divInt (hs.getD i 0) b, ws.getD i 0)], _, _, by rw [List.map_append]; rfl, ?_⟩
    rw [List.map_append, take_snoc ez, hm]
    rfl
  · rintro δ ⟨p, ms, t1, t2, rfl, hm⟩
    walk_at "d"
    rw [List.take_of_length_le (by omega)] at hm
    exact k ms hm
end
noncomputable def hwZip (b : Int) (hs ws : List Int) : List (Rat × Int) := List.zipWith (fun h v => (Rat.divInt h b, v)) hs ws
noncomputable def smZ (hs ws : List Int) (c : Int) : Int := (List.zipWith (fun a v => v * (if a - c < 0 then -(a - c) else a - c)) hs ws).sum
noncomputable def f1Z (hs ws : List Int) : Int := (List.zipWith (fun a v => v * a) hs ws).sum
noncomputable def f2Z (hs ws : List Int) : Int := (List.zipWith (fun a v => v * a * a) hs ws).sum
theorem dv_q (h : Int) {b : Int} : Rat.divInt h b = (h : Rat) / (b : Rat) := Rat.divInt_eq_div _ _
theorem dv_le {h k b : Int} (hb : 1 ≤ b) (e : h ≤ k) : Rat.divInt h b ≤ Rat.divInt k b := by
  rw [dv_q, dv_q]
  have b0 : (0 : Rat) < (b : Rat) := Rat.intCast_pos.mpr (by omega)
  have e2 : (h : Rat) ≤ (k : Rat) := Rat.intCast_le_intCast.mpr e
  rw [Rat.div_def, Rat.div_def]
  exact Rat.mul_le_mul_of_nonneg_right e2 (Rat.le_of_lt (Rat.inv_pos.mpr b0))
theorem hgts_hw {S : List Mk} {b : Int} {hs ws : List Int} (e : S.map (·.2) = hwZip b hs ws) (hl : ws.length = hs.length) : hgts S = hs.map fun h => Rat.divInt h b := by
  have e1 : hgts S = (S.map (·.2)).map (·.1) := by rw [List.map_map]; rfl
  rw [e1, e]
  clear e e1
  unfold hwZip
  induction hs generalizing ws with
  | nil => rfl
  | cons h hs ih => cases ws with
    | nil => cases hl
    | cons v ws => simp [ih (by simpa using hl)]
theorem wgts_hw {S : List Mk} {b : Int} {hs ws : List Int} (e : S.map (·.2) = hwZip b hs ws) (hl : ws.length = hs.length) : wgts S = ws.map fun v : Int => (v : Rat) := by
  have e1 : wgts S = (S.map (·.2)).map fun z => (z.2 : Rat) := by rw [List.map_map]; rfl
  rw [e1, e]
  clear e e1
  unfold hwZip
  induction hs generalizing ws with
  | nil => cases ws with
    | nil => rfl
    | cons v ws => cases hl
  | cons h hs ih => cases ws with
    | nil => cases hl
    | cons v ws => simp [ih (by simpa using hl)]
theorem miss_rep (x : Rat) : ∀ S : List Mk, missR S (List.replicate S.length x) = S.map fun m => m.2.1 - x
  | [] => rfl
  | m :: S => by
    have := miss_rep x S
    unfold missR at *
    simp only [List.length_cons, List.replicate_succ, List.zipWith_cons_cons, List.map_cons, this]
theorem wmiss_rep (x : Rat) : ∀ S : List Mk, wmissR S (List.replicate S.length x) = S.map fun m => (m.2.2 : Rat) * (m.2.1 - x) := fun S => by
  unfold wmissR
  rw [miss_rep]
  induction S with
  | nil => rfl
  | cons m S ih => simp only [List.map_cons, List.zipWith_cons_cons, ih]
theorem sq_rep (x : Rat) : ∀ S : List Mk, sqR S (List.replicate S.length x) = S.map fun m => (m.2.2 : Rat) * (m.2.1 - x) * (m.2.1 - x) := fun S => by
  unfold sqR
  rw [wmiss_rep, miss_rep]
  induction S with
  | nil => rfl
  | cons m S ih => simp only [List.map_cons, List.zipWith_cons_cons, ih]
theorem due_far {S : List Mk} {b : Int} {hs ws : List Int} {x p q : Rat} {a c : Int} (e : S.map (·.2) = hwZip b hs ws) (hl : ws.length = hs.length) (hb : 1 ≤ b)
    (hp : p ∈ hgts S) (hp1 : ∀ r ∈ hgts S, r ≤ p) (hq : q ∈ hgts S) (hq1 : ∀ r ∈ hgts S, q ≤ r) (hx : x = half0 * (p + q)) (ha : a ∈ hs) (ha1 : ∀ h ∈ hs, h ≤ a) (hc : c ∈ hs) (hc1 : ∀ h ∈ hs, c ≤ h) :
    maxR ((missR S (List.replicate S.length x)).map absR) = Rat.divInt (a - c) (2 * b) := by
  have eg := hgts_hw e hl
  have em : (missR S (List.replicate S.length x)) = (hgts S).map fun h => h - half0 * (p + q) := by rw [miss_rep, hx, hgts, List.map_map]; rfl
  rw [em, far_cost hp hp1 hq1]
  have e1 : p = Rat.divInt a b := by
    refine Rat.le_antisymm ?_ (hp1 _ (by rw [eg]; exact List.mem_map.mpr ⟨a, ha, rfl⟩))
    rw [eg] at hp
    obtain ⟨h, hh, rfl⟩ := List.mem_map.mp hp
    exact dv_le hb (ha1 h hh)
  have e2 : q = Rat.divInt c b := by
    refine Rat.le_antisymm (hq1 _ (by rw [eg]; exact List.mem_map.mpr ⟨c, hc, rfl⟩)) ?_
    rw [eg] at hq
    obtain ⟨h, hh, rfl⟩ := List.mem_map.mp hq
    exact dv_le hb (hc1 h hh)
  rw [e1, e2, dv_q, dv_q, dv_q, Rat.intCast_sub, Rat.intCast_mul, show half0 = 1 / 2 by decide +kernel]
  have b0 : (b : Rat) ≠ 0 := fun z => by have := Rat.intCast_pos.mpr (show 0 < b by omega); grind
  have : ((2 : Int) : Rat) = 2 := rfl
  rw [this]
  grind
theorem sm_cst {b c : Int} (hb : 1 ≤ b) : ∀ {hs ws : List Int}, ws.length = hs.length → cst ((hs.map fun h => Rat.divInt h b).zip (ws.map fun v : Int => (v : Rat))) (Rat.divInt c b) = Rat.divInt (smZ hs ws c) b
  | [], ws, _ => by
    show (0 : Rat) = _
    rw [dv_q]; simp [smZ]; grind
  | h :: hs, [], hl => by cases hl
  | h :: hs, v :: ws, hl => by
    have ih := sm_cst hb (c := c) (hs := hs) (ws := ws) (by simpa using hl)
    have b0 : (0 : Rat) < (b : Rat) := Rat.intCast_pos.mpr (by omega)
    have es : smZ (h :: hs) (v :: ws) c = v * (if h - c < 0 then -(h - c) else h - c) + smZ hs ws c := by simp [smZ]
    have ec : cst (((h :: hs).map fun h => Rat.divInt h b).zip ((v :: ws).map fun v : Int => (v : Rat))) (Rat.divInt c b) = (v : Rat) * absR (Rat.divInt h b - Rat.divInt c b) + cst ((hs.map fun h => Rat.divInt h b).zip (ws.map fun v : Int => (v : Rat))) (Rat.divInt c b) := rfl
    rw [ec, ih, es]
    rw [dv_q (h := smZ hs ws c), dv_q (h := _ + _), Rat.intCast_add, Rat.intCast_mul]
    by_cases k : h - c < 0
    · rw [if_pos k, absR_neg (by have := dv_le hb (show h ≤ c by omega); grind), dv_q, dv_q, Rat.intCast_neg, Rat.intCast_sub]
      grind
    · rw [if_neg k, absR_pos (by have := dv_le hb (show c ≤ h by omega); grind), dv_q, dv_q, Rat.intCast_sub]
      grind
theorem absR_mulw {v : Int} (hv : 1 ≤ v) (y : Rat) : absR ((v : Rat) * y) = (v : Rat) * absR y := by
  have v0 : (0 : Rat) ≤ (v : Rat) := Rat.intCast_nonneg.mpr (by omega)
  rcases Rat.le_total (a := 0) (b := y) with h | h
  · rw [absR_pos h, absR_pos (Rat.mul_nonneg v0 h)]
  · have := Rat.mul_nonneg v0 (show 0 ≤ -y by grind)
    rw [absR_neg h, absR_neg (by grind)]; grind
theorem sum_cst {x : Rat} : ∀ {S : List Mk}, (∀ m ∈ S, 1 ≤ m.2.2) → tot ((wmissR S (List.replicate S.length x)).map absR) = cst ((hgts S).zip (wgts S)) x := fun {S} h => by
  rw [wmiss_rep]
  induction S with
  | nil => rfl
  | cons m S ih =>
    have i := ih fun y hy => h y (List.mem_cons_of_mem _ hy)
    have ec : cst ((hgts (m :: S)).zip (wgts (m :: S))) x = (m.2.2 : Rat) * absR (m.2.1 - x) + cst ((hgts S).zip (wgts S)) x := rfl
    rw [ec, ← i, List.map_cons, List.map_cons, tot, absR_mulw (h m List.mem_cons_self)]
theorem due_sum {S : List Mk} {b : Int} {hs ws : List Int} {x : Rat} {c : Int} (e : S.map (·.2) = hwZip b hs ws) (hl : ws.length = hs.length) (hb : 1 ≤ b) (hw : ∀ m ∈ S, 1 ≤ m.2.2)
    (M : Mid ((hgts S).zip (wgts S)) x) (hc : c ∈ hs) (hc1 : ∀ d ∈ hs, smZ hs ws c ≤ smZ hs ws d) : tot ((wmissR S (List.replicate S.length x)).map absR) = Rat.divInt (smZ hs ws c) b := by
  rw [sum_cst hw]
  have nn : ∀ z ∈ (hgts S).zip (wgts S), 0 ≤ z.2 := fun z hz => by
    obtain ⟨m, hm, e2⟩ := List.mem_map.mp (List.of_mem_zip (a := z.1) (b := z.2) hz).2
    rw [← e2]
    exact Rat.intCast_nonneg.mpr (by have := hw m hm; omega)
  have M2 := mid_least nn M (Rat.divInt c b)
  obtain ⟨z, hz, ez⟩ := M.mem
  have hx := (List.of_mem_zip (a := z.1) (b := z.2) hz).1
  rw [ez, hgts_hw e hl] at hx
  obtain ⟨d, hd, rfl⟩ := List.mem_map.mp hx
  rw [hgts_hw e hl, wgts_hw e hl] at M2 ⊢
  rw [sm_cst hb hl, sm_cst hb hl] at M2
  rw [sm_cst hb hl]
  exact Rat.le_antisymm M2 (dv_le hb (hc1 d hd))
theorem sq2_hw {b : Int} (hb : 1 ≤ b) : ∀ {S : List Mk} {hs ws : List Int}, S.map (·.2) = hwZip b hs ws → ws.length = hs.length → sq2 S = (f2Z hs ws : Rat) / ((b : Rat) * b) ∧ umix S = (f1Z hs ws : Rat) / (b : Rat) ∧ wsum S = ws.sum
  | [], [], [], _, _ => by
    refine ⟨?_, ?_, rfl⟩
    · show (0 : Rat) = _
      simp [f2Z]; grind
    · show (0 : Rat) = _
      simp [f1Z]; grind
  | [], h :: hs, v :: ws, e, _ => by simp [hwZip] at e
  | m :: S, [], [], e, _ => by simp [hwZip] at e
  | S, [], v :: ws, _, hl => by cases hl
  | S, h :: hs, [], _, hl => by cases hl
  | m :: S, h :: hs, v :: ws, e, hl => by
    have e0 : m.2 = (Rat.divInt h b, v) ∧ S.map (·.2) = hwZip b hs ws := by simpa [hwZip] using e
    obtain ⟨i1, i2, i3⟩ := sq2_hw hb e0.2 (by simpa using hl)
    have b0 : (b : Rat) ≠ 0 := fun z => by have := Rat.intCast_pos.mpr (show 0 < b by omega); grind
    have em1 : m.2.1 = (h : Rat) / (b : Rat) := by rw [e0.1, dv_q]
    have em2 : m.2.2 = v := by rw [e0.1]
    refine ⟨?_, ?_, ?_⟩
    · have e1 : sq2 (m :: S) = (m.2.2 : Rat) * m.2.1 * m.2.1 + sq2 S := rfl
      have e2 : f2Z (h :: hs) (v :: ws) = v * h * h + f2Z hs ws := by simp [f2Z]
      rw [e1, e2, i1, em1, em2, Rat.intCast_add, Rat.intCast_mul, Rat.intCast_mul]
      grind
    · have e2 : f1Z (h :: hs) (v :: ws) = v * h + f1Z hs ws := by simp [f1Z]
      rw [umix_cons, e2, i2, em1, em2, Rat.intCast_add, Rat.intCast_mul]
      grind
    · rw [wsum, i3, em2]; simp
theorem due_sq {S : List Mk} {b : Int} {hs ws : List Int} {x : Rat} (e : S.map (·.2) = hwZip b hs ws) (hl : ws.length = hs.length) (hb : 1 ≤ b) (hS : S ≠ []) (hw : ∀ m ∈ S, 1 ≤ m.2.2)
    (hx : x = tot (List.zipWith (fun v h => v * h) (wgts S) (hgts S)) / tot (wgts S)) :
    tot (sqR S (List.replicate S.length x)) = Rat.divInt (ws.sum * f2Z hs ws - f1Z hs ws * f1Z hs ws) (ws.sum * b * b) := by
  obtain ⟨e1, e2, e3⟩ := sq2_hw hb e hl
  have wp := wsum_pos hS hw
  have w0 : (0 : Rat) < (wsum S : Rat) := Rat.intCast_pos.mpr (by omega)
  have b0 : (b : Rat) ≠ 0 := fun z => by have := Rat.intCast_pos.mpr (show 0 < b by omega); grind
  have h1 : x * (wsum S : Rat) = umix S := by
    rw [hx, wsum_tot]
    have : tot (List.zipWith (fun v h => v * h) (wgts S) (hgts S)) = umix S := rfl
    rw [this]
    grind
  have h2 := sq_least h1
  rw [sq_rep, sq_cost]
  rw [dv_q, Rat.intCast_sub, Rat.intCast_mul, Rat.intCast_mul, Rat.intCast_mul, Rat.intCast_mul, ← e3]
  generalize sq2 S - (x + x) * umix S + x * x * (wsum S : Rat) = y at *
  rw [e1, e2] at h2
  generalize (wsum S : Rat) = t at *
  generalize (f2Z hs ws : Rat) = f2 at *
  generalize (f1Z hs ws : Rat) = f1 at *
  generalize (b : Rat) = bb at *
  have t0 : t ≠ 0 := fun z => by rw [z] at w0; exact absurd w0 (by decide)
  grind
section
variable {P : Program} {w : World} {K : PySem.W.Frag} {mg : Str → Option Value} {base : Heap} {A : Adr}
noncomputable def joinR (kd : Str) (a b : Rat) : Rat := if kd = "far" then (if a < b then b else a) else a + b
noncomputable def wJoined (C : Addr) : DW := fun ds Q X => ∃ (d : PyData) (a b : Rat), ds = [d, fr a, fr b] ∧ Ok a ∧ Ok b ∧ (∀ kd : Str, d = .str kd → PyData.strOk kd = true) ∧ (∀ kd : Str, d = .str kd → kd ∈ kdsL → Q (.dat (fr (joinR kd a b)))) ∧ ((∀ kd : Str, d = .str kd → kd ∉ kdsL) → X C)
theorem ok_joined (T : Txt K mg A) : FnOk P w K mg base (CXE P w) 3 A.a_joined A.d_joined ["kind", "one", "other"] (spW K (wJoined A.x_NoKind)) := by
  have G_check_kind := ok_check_kind (P := P) (w := w) (base := base) T
  have G_greatest_of := ok_greatest_of (P := P) (w := w) (base := base) T
  have G_plus := ok_plus (P := P) (w := w) (base := base) T
  refine okW T.F_joined sc_joined (fun ds Q E h => ?_) (fun cdv Ar outer s H E hr => ?_)
  · obtain ⟨_, _, _, rfl, _⟩ := h; rfl
  refine ⟨_, (pss_cons (ps_expr (pe_call G_check_kind (hr.mono (by decide)) rfl T.m_check_kind T.F_check_kind.kp T.b_check_kind .nil pass_own (pa_cons (pv 0) pa_nil)))
      (pss_cons (ps_if (pt_cmpR op_eq (pv 0) pe_str (nomark _)) (pss_one (ps_ret (pe_call G_greatest_of (hr.mono (by decide)) rfl T.m_greatest_of T.F_greatest_of.kp T.b_greatest_of .nil passE0 (pa_cons (pe_lst (pa_cons (pv 1) (pa_cons (pv 2) pa_nil))) pa_nil)))) pss_nil)
      (pss_one (ps_ret (pe_call G_plus (hr.mono (by decide)) rfl T.m_plus T.F_plus.kp T.b_plus .nil passE0 (pa_cons (pv 1) (pa_cons (pv 2) pa_nil))))))), _, (sv_seq (sv_expr (bv_ev (ev_call (av_cons (bv_var 0) av_nil))))
      (sv_seq (sv_if (tv_test (bv_ev (ev_op ro_eq (bv_var 0) (bv_ev ev_str)))) (sv_ret (bv_ev (ev_call0 (av_cons (bv_ev (ev_ov (ov_lst (ae_cons (ev_var 1) (ae_cons (ev_var 2) ae_nil)) (by decide)))) av_nil)))) sv_next)
      (sv_ret (bv_ev (ev_call0 (av_cons (bv_var 1) (av_cons (bv_var 2) av_nil))))))), ?_⟩
  rintro ds Q X ⟨d, a, b, rfl, oa, ob, ok, k, kx⟩
  walk_at "s"
  refine ⟨d, rfl, ok, ?_, kx⟩
  rintro ⟨kd, rfl, hkd⟩
  have kq := k kd rfl hkd
  unfold joinR at kq
  walk_at "s"
  refine ite2 (fun c => ?_) (fun c => ?_)
  · have ek : kd = "far" := c
    rw [if_pos ek] at kq
    walk_at "d"
    refine ⟨[a, b], rfl, fun q hq => ?_, fun h => absurd h (by simp), fun q hq hle => ?_⟩
    · rcases List.mem_cons.mp hq with rfl | hq
      · exact oa
      · rw [List.mem_singleton.mp hq]; exact ob
    · walk_at "d"
      have ha := hle a (by simp)
      have hb := hle b (by simp)
      have e : q = (if a < b then b else a) := by
        rcases List.mem_cons.mp hq with rfl | hq
        · rw [if_neg (Rat.not_lt.mpr hb)]
        · rw [List.mem_singleton.mp hq] at ha ⊢
          split
          · rfl
          · exact Rat.le_antisymm (Rat.not_lt.mp ‹_›) ha
      rw [e]
      exact kq
  · have nk : kd ≠ "far" := c
    rw [if_neg nk] at kq
    walk_at "d"
    refine ⟨a, b, rfl, oa, ob, ?_⟩
    walk_at "d"
    exact kq
end
theorem zipW_app {α β γ : Type} (f : α → β → γ) : ∀ {A : List α} {r : List β} {B : List α} {t : List β}, A.length = r.length → List.zipWith f (A ++ B) (r ++ t) = List.zipWith f A r ++ List.zipWith f B t
  | [], [], _, _, _ => rfl
  | [], _ :: _, _, _, h => by cases h
  | _ :: _, [], _, _, h => by cases h
  | a :: A, x :: r, B, t, h => by
    rw [List.cons_append, List.cons_append, List.zipWith_cons_cons, List.zipWith_cons_cons, List.cons_append, zipW_app f (by simpa using h)]
theorem tot_app2 : ∀ (a b : List Rat), tot (a ++ b) = tot a + tot b
  | [], b => by show tot b = 0 + tot b; grind
  | x :: a, b => by
    have := tot_app2 a b
    rw [List.cons_append]
    simp only [tot]
    rw [this]
    grind
theorem maxR_app (a b : List Rat) : maxR (a ++ b) = if maxR a < maxR b then maxR b else maxR a := by
  have ha := maxR_nn a
  have hb := maxR_nn b
  symm
  refine maxR_eq ?_ ?_ fun x hx => ?_
  · split <;> assumption
  · split
    · rcases @maxR_mem b with h | h
      · exact .inl h
      · exact .inr (List.mem_append_right _ h)
    · rcases @maxR_mem a with h | h
      · exact .inl h
      · exact .inr (List.mem_append_left _ h)
  · rcases List.mem_append.mp hx with h | h
    · have := maxR_le x h
      split <;> grind
    · have := maxR_le x h
      split <;> grind
theorem miss_app {A B : List Mk} {r t : List Rat} (h : A.length = r.length) : missR (A ++ B) (r ++ t) = missR A r ++ missR B t := zipW_app _ h
theorem missR_len2 {A : List Mk} {r : List Rat} (h : A.length = r.length) : (missR A r).length = A.length := by
  unfold missR
  rw [List.length_zipWith]; omega
theorem wmiss_app {A B : List Mk} {r t : List Rat} (h : A.length = r.length) : wmissR (A ++ B) (r ++ t) = wmissR A r ++ wmissR B t := by
  unfold wmissR
  rw [miss_app h]
  exact zipW_app _ (missR_len2 h).symm
theorem sq_app {A B : List Mk} {r t : List Rat} (h : A.length = r.length) : sqR (A ++ B) (r ++ t) = sqR A r ++ sqR B t := by
  unfold sqR
  rw [miss_app h, wmiss_app h]
  refine zipW_app _ ?_
  unfold wmissR
  rw [List.length_zipWith, missR_len2 h]; omega
theorem meas_app (kd : Str) {A B : List Mk} {r t : List Rat} (h : A.length = r.length) : meas kd (A ++ B) (r ++ t) = joinR kd (meas kd A r) (meas kd B t) := by
  unfold meas joinR
  by_cases h1 : kd = "far"
  · rw [if_pos h1, if_pos h1, if_pos h1, if_pos h1, miss_app h, List.map_append, maxR_app]
  · rw [if_neg h1, if_neg h1, if_neg h1, if_neg h1]
    by_cases h2 : kd = "sum"
    · rw [if_pos h2, if_pos h2, if_pos h2, wmiss_app h, List.map_append, tot_app2]
    · rw [if_neg h2, if_neg h2, if_neg h2, sq_app h, tot_app2]
theorem level_least {kd : Str} {S : List Mk} {x : Rat} (hk : kd ∈ kdsL) (X : LevelOk kd S x) (hne : S ≠ []) (hw : ∀ m ∈ S, 1 ≤ m.2.2) (y : Rat) : meas kd S (List.replicate S.length x) ≤ meas kd S (List.replicate S.length y) := by
  have hk3 : kd = "far" ∨ kd = "sum" ∨ kd = "square" := by simpa [kdsL] using hk
  rcases hk3 with rfl | rfl | rfl
  · obtain ⟨a, b, a1, a2, b1, b2, ex⟩ := X.far rfl
    unfold meas
    rw [if_pos rfl, if_pos rfl]
    have e : missR S (List.replicate S.length x) = (hgts S).map fun h => h - half0 * (a + b) := by rw [miss_rep, ex, hgts, List.map_map]; rfl
    have e2 : missR S (List.replicate S.length y) = (hgts S).map fun h => h - y := by rw [miss_rep, hgts, List.map_map]; rfl
    rw [e, far_cost a1 a2 b2, e2]
    have ha : absR (a - y) ≤ maxR (((hgts S).map fun h => h - y).map absR) := maxR_le _ (List.mem_map.mpr ⟨a - y, List.mem_map.mpr ⟨a, a1, rfl⟩, rfl⟩)
    have hb : absR (b - y) ≤ maxR (((hgts S).map fun h => h - y).map absR) := maxR_le _ (List.mem_map.mpr ⟨b - y, List.mem_map.mpr ⟨b, b1, rfl⟩, rfl⟩)
    have hd := half0_dbl (a - b)
    rcases absR_cases (a - y) with ⟨_, h1⟩ | ⟨_, h1⟩ <;> rcases absR_cases (b - y) with ⟨_, h2⟩ | ⟨_, h2⟩ <;> grind
  · unfold meas
    rw [if_neg (by decide), if_pos rfl, if_neg (by decide), if_pos rfl, sum_cst hw, sum_cst hw]
    refine mid_least (fun z hz => ?_) (X.sum rfl) y
    have := (List.of_mem_zip hz).2
    obtain ⟨m, hm, e⟩ := List.mem_map.mp this
    rw [← e]
    have := hw m hm
    exact Rat.intCast_nonneg.mpr (by omega)
  · unfold meas
    rw [if_neg (by decide), if_neg (by decide), if_neg (by decide), if_neg (by decide), sq_rep, sq_rep, sq_cost, sq_cost]
    have wp := wsum_pos hne hw
    have w0 : (0 : Rat) < (wsum S : Rat) := Rat.intCast_pos.mpr (by omega)
    have h1 : x * (wsum S : Rat) = umix S := by
      rw [X.sq rfl, wsum_tot]
      have : tot (List.zipWith (fun v h => v * h) (wgts S) (hgts S)) = umix S := rfl
      rw [this]
      grind
    have h2 : 0 ≤ (wsum S : Rat) * ((y - x) * (y - x)) := Rat.mul_nonneg (Rat.le_of_lt w0) (by
      rcases Rat.le_total (a := 0) (b := y - x) with h | h
      · exact Rat.mul_nonneg h h
      · have := Rat.mul_nonneg (show 0 ≤ -(y - x) by grind) (show 0 ≤ -(y - x) by grind)
        grind)
    rw [← h1]
    grind
open Classical in
noncomputable def cF (kd : Str) (S : List Mk) : Rat := if h : ∃ x, LevelOk kd S x then meas kd S (List.replicate S.length h.choose) else 0
theorem cF_is {kd : Str} {S : List Mk} {x : Rat} (hk : kd ∈ kdsL) (X : LevelOk kd S x) (hne : S ≠ []) (hw : ∀ m ∈ S, 1 ≤ m.2.2) : meas kd S (List.replicate S.length x) = cF kd S := by
  unfold cF
  rw [dif_pos ⟨x, X⟩]
  exact Rat.le_antisymm (level_least hk X hne hw _) (level_least hk (Exists.choose_spec (⟨x, X⟩ : ∃ x, LevelOk kd S x)) hne hw _)
noncomputable def bestTo (kd : Str) (c : Nat → Nat → Rat) (a : Nat → Rat) (i : Nat) : Nat → Rat × Nat
  | 0 => (c 0 i, 0)
  | m + 1 => if joinR kd (a m) (c (m + 1) i) < (bestTo kd c a i m).1 then (joinR kd (a m) (c (m + 1) i), m + 1) else bestTo kd c a i m
noncomputable def tabE (kd : Str) (c : Nat → Nat → Rat) : Nat → Nat → Rat × Nat
  | 0, i => (c 0 i, 0)
  | j + 1, i => bestTo kd c (fun h => (tabE kd c j h).1) i i
theorem best_le (kd : Str) (c : Nat → Nat → Rat) (a : Nat → Rat) (i : Nat) : ∀ m, (bestTo kd c a i m).1 ≤ c 0 i ∧ ∀ h, h < m → (bestTo kd c a i m).1 ≤ joinR kd (a h) (c (h + 1) i)
  | 0 => ⟨Rat.le_refl, fun h hh => absurd hh (by omega)⟩
  | m + 1 => by
    obtain ⟨h1, h2⟩ := best_le kd c a i m
    unfold bestTo
    split
    · rename_i hc
      refine ⟨by simp only; grind, fun h hh => ?_⟩
      rcases Nat.lt_or_eq_of_le (Nat.lt_succ_iff.mp hh) with hl | rfl
      · have := h2 h hl
        simp only; grind
      · exact Rat.le_refl
    · rename_i hc
      refine ⟨h1, fun h hh => ?_⟩
      rcases Nat.lt_or_eq_of_le (Nat.lt_succ_iff.mp hh) with hl | rfl
      · exact h2 h hl
      · exact Rat.not_lt.mp hc
theorem best_at (kd : Str) (c : Nat → Nat → Rat) (a : Nat → Rat) (i : Nat) : ∀ m, bestTo kd c a i m = (c 0 i, 0) ∨ ∃ h, h < m ∧ bestTo kd c a i m = (joinR kd (a h) (c (h + 1) i), h + 1)
  | 0 => .inl rfl
  | m + 1 => by
    unfold bestTo
    split
    · exact .inr ⟨m, by omega, rfl⟩
    · rcases best_at kd c a i m with h | ⟨h, hl, e⟩
      · exact .inl h
      · exact .inr ⟨h, by omega, e⟩
inductive FwL : Nat → Rat → List Rat → Prop
  | one (j : Nat) (x : Rat) : FwL j x [x]
  | same {j : Nat} {x : Rat} {r : List Rat} : FwL j x r → FwL j x (r ++ [x])
  | step {j : Nat} {x y : Rat} {r : List Rat} : FwL j y r → FwL (j + 1) x (r ++ [x])
theorem FwL.ne {j : Nat} {x : Rat} {r : List Rat} (h : FwL j x r) : 1 ≤ r.length := by
  cases h <;> simp
theorem rep_snoc (m : Nat) (x : Rat) : List.replicate (m + 1) x = List.replicate m x ++ [x] := List.replicate_succ'
theorem FwL.last {j : Nat} {x : Rat} {r : List Rat} (h : FwL j x r) : ∃ m, r = List.replicate (m + 1) x ∨ ∃ j' y r1, j = j' + 1 ∧ FwL j' y r1 ∧ r = r1 ++ List.replicate (m + 1) x := by
  induction h with
  | one j x => exact ⟨0, .inl rfl⟩
  | @same j x r h ih =>
    obtain ⟨m, e | ⟨j', y, r1, e1, h1, e⟩⟩ := ih
    · exact ⟨m + 1, .inl (by rw [e, rep_snoc (m + 1)])⟩
    · exact ⟨m + 1, .inr ⟨j', y, r1, e1, h1, by rw [e, rep_snoc (m + 1), List.append_assoc]⟩⟩
  | @step j x y r h ih => exact ⟨0, .inr ⟨j, y, r, rfl, h, rfl⟩⟩
theorem FwL.rep (j : Nat) (x : Rat) : ∀ m, FwL j x (List.replicate (m + 1) x)
  | 0 => .one j x
  | m + 1 => by rw [rep_snoc]; exact .same (FwL.rep j x m)
theorem FwL.app {j : Nat} {y : Rat} {r : List Rat} (h : FwL j y r) (x : Rat) : ∀ m, FwL (j + 1) x (r ++ List.replicate (m + 1) x)
  | 0 => .step h
  | m + 1 => by rw [rep_snoc, ← List.append_assoc]; exact .same (FwL.app h x m)
theorem take_str (ms : List Mk) {h i : Nat} (hi : h < i) : ms.take (i + 1) = ms.take (h + 1) ++ strch ms (h + 1) i := by
  unfold strch
  have e : ms.take (h + 1) = (ms.take (i + 1)).take (h + 1) := by rw [List.take_take, Nat.min_eq_left (by omega)]
  rw [e]
  exact (List.take_append_drop _ _).symm
theorem str_len2 {ms : List Mk} {f l : Nat} (hl : l < ms.length) : (strch ms f l).length = l + 1 - f := by
  unfold strch
  rw [List.length_drop, List.length_take]; omega
theorem str_mem2 {ms : List Mk} {f l : Nat} {m : Mk} (h : m ∈ strch ms f l) : m ∈ ms := List.mem_of_mem_take (List.mem_of_mem_drop h)
section
variable {kd : Str} {ms : List Mk}
inductive Laid (kd : Str) (ms : List Mk) : Nat → Nat → List Rat → Prop
  | base {j i : Nat} {x : Rat} : (tabE kd (fun f l => cF kd (strch ms f l)) j i).2 = 0 → LevelOk kd (strch ms 0 i) x → Laid kd ms j i (List.replicate (i + 1) x)
  | step {j i h : Nat} {x : Rat} {r : List Rat} : (tabE kd (fun f l => cF kd (strch ms f l)) (j + 1) i).2 = h + 1 → h < i → Laid kd ms j h r → LevelOk kd (strch ms (h + 1) i) x → Laid kd ms (j + 1) i (r ++ List.replicate (i - h) x)
theorem tab_cases (j i : Nat) : (tabE kd (fun f l => cF kd (strch ms f l)) j i = (cF kd (strch ms 0 i), 0)) ∨
    ∃ j' h, j = j' + 1 ∧ h < i ∧ tabE kd (fun f l => cF kd (strch ms f l)) j i = (joinR kd (tabE kd (fun f l => cF kd (strch ms f l)) j' h).1 (cF kd (strch ms (h + 1) i)), h + 1) := by
  cases j with
  | zero => exact .inl rfl
  | succ j =>
    rcases best_at kd (fun f l => cF kd (strch ms f l)) (fun h => (tabE kd (fun f l => cF kd (strch ms f l)) j h).1) i i with h | ⟨h, hl, e⟩
    · exact .inl h
    · exact .inr ⟨j, h, rfl, hl, e⟩
theorem Laid.is (hk : kd ∈ kdsL) (hw : ∀ m ∈ ms, 1 ≤ m.2.2) {j i : Nat} {r : List Rat} (L : Laid kd ms j i r) (hi : i < ms.length) :
    r.length = i + 1 ∧ (∃ x, FwL j x r) ∧ meas kd (ms.take (i + 1)) r = (tabE kd (fun f l => cF kd (strch ms f l)) j i).1 := by
  induction L with
  | @base j i x h0 hL =>
    have hl := str_len2 (f := 0) hi
    have e := cF_is hk hL (fun e => by rw [e] at hl; simp at hl) fun m hm => hw m (str_mem2 hm)
    rw [hl] at e
    refine ⟨List.length_replicate, ⟨x, FwL.rep j x i⟩, ?_⟩
    rcases tab_cases (kd := kd) (ms := ms) j i with h | ⟨j', h, _, _, e2⟩
    · rw [h]; exact e
    · rw [e2] at h0; cases h0
  | @step j i h x r h0 hh hr hL ih =>
    obtain ⟨l1, ⟨y, f1⟩, m1⟩ := ih (by omega)
    have hl := str_len2 (f := h + 1) hi
    have e := cF_is hk hL (fun e => by rw [e] at hl; simp at hl; omega) fun m hm => hw m (str_mem2 hm)
    have e3 : i + 1 - (h + 1) = i - h := by omega
    rw [hl, e3] at e
    refine ⟨by rw [List.length_append, List.length_replicate]; omega, ⟨x, ?_⟩, ?_⟩
    · obtain ⟨m, hm⟩ : ∃ m, i - h = m + 1 := ⟨i - h - 1, by omega⟩
      rw [hm]
      exact f1.app x m
    · rw [take_str ms hh, meas_app kd (by rw [List.length_take, l1]; omega), m1, e]
      rcases tab_cases (kd := kd) (ms := ms) (j + 1) i with h2 | ⟨j', h2, ej, _, e2⟩
      · rw [h2] at h0; cases h0
      · have ej2 : j = j' := by omega
        subst ej2
        rw [e2] at h0
        have : h2 = h := by simpa using h0
        subst this
        rw [e2]
end
section
variable {dl : DL} {cap : List (Option Nat)} {dg : DG} {dt : DT} {de : DE} {ex : DX} {δ : DEn} {Q : List PyData → Prop}
theorem lc_mapP {α β : Type} (f : α → PyData) (g : β → PyData) (F : α → List β) (xs : List α) (p : α → Prop) (hlen : xs.length ≤ 1000) (hl : ∀ Q, Q (xs.map f) → dl ex δ Q)
    (hs : ∀ x ∈ xs, ∀ N : List PyData → Prop, ∀ acc, (p x → N (acc ++ (F x).map g)) → dg (f x) (capD cap δ) fun δ2 => dt (fun _ => False) δ2 fun b => if b = true then de (fun _ => False) δ2 fun y => N (acc ++ [y]) else N acc)
    (hd : (∀ x ∈ xs, p x) → Q ((xs.flatMap F).map g)) : dLC dl cap dg dt de ex δ Q :=
  hl _ ⟨by rw [List.length_map]; exact hlen, fun i acc => acc = ((xs.take i).flatMap F).map g ∧ ∀ x ∈ xs.take i, p x, ⟨by simp, by simp⟩, fun i d acc hi hI => by
    rw [List.getElem?_map] at hi
    cases q : xs[i]? with
    | none => rw [q] at hi; cases hi
    | some x =>
      rw [q] at hi
      cases hi
      obtain ⟨rfl, hp⟩ := hI
      refine hs x (List.mem_of_getElem? q) (fun acc => acc = ((xs.take (i + 1)).flatMap F).map g ∧ ∀ x ∈ xs.take (i + 1), p x) _ fun px => ?_
      have e : xs.take (i + 1) = xs.take i ++ [x] := by
        rw [List.take_add_one, q]; rfl
      rw [e]
      refine ⟨by simp, fun z hz => ?_⟩
      rcases List.mem_append.mp hz with h | h
      · exact hp z h
      · rw [List.mem_singleton.mp h]; exact px, fun acc hI => by
    obtain ⟨rfl, hp⟩ := hI
    rw [List.length_map, List.take_of_length_le (Nat.le_refl _)] at hp ⊢
    exact hd hp⟩
end
section
variable {P : Program} {w : World} {K : PySem.W.Frag} {mg : Str → Option Value} {base : Heap} {A : Adr}
noncomputable def wLessR : DW := fun ds Q _ => ∃ p q r s : Int, ds = [.tuple [.int p, .int q], .tuple [.int r, .int s]] ∧ Wee p ∧ Wee q ∧ Wee r ∧ Wee s ∧ Q (.dat (.bool (decide (p * s < r * q))))
theorem ok_is_lessR (T : Txt K mg A) : FnOk P w K mg base (CXE P w) 1 A.a_is_less A.d_is_less ["one", "other"] (spW K wLessR) := by
  refine okW T.F_is_less sc_is_less (fun ds Q E h => ?_) (fun cdv Ar outer s H E hr => ?_)
  · obtain ⟨_, _, _, _, rfl, _⟩ := h; rfl
  refine ⟨_, (pss_one (ps_ret (pe_cmpR op_lt (pe_op op_mulB (pe_ix (ixtK (K := K) rfl) (pv 0) pe_int (fun _ _ => rfl)) (pe_ix (ixtK (K := K) rfl) (pv 1) pe_int (fun _ _ => rfl))) (pe_op op_mulB (pe_ix (ixtK (K := K) rfl) (pv 1) pe_int (fun _ _ => rfl)) (pe_ix (ixtK (K := K) rfl) (pv 0) pe_int (fun _ _ => rfl))) (nomark _)))), _, (sv_ret (bv_ev (ev_op ro_b0 (bv_ev (ev_op ro_i (bv_ev (ev_ixk 0 (ev_var 0))) (bv_ev (ev_ixk 1 (ev_var 1))))) (bv_ev (ev_op ro_i (bv_ev (ev_ixk 0 (ev_var 1))) (bv_ev (ev_ixk 1 (ev_var 0)))))))), ?_⟩
  rintro ds Q X ⟨p, q, r, s, rfl, hp, hq, hr, hs, k⟩
  walk_at "d"
  exact ⟨mulOk hp hs, mulOk hr hq, k⟩
theorem num_is (a : Rat) : a * (a.den : Rat) = (a.num : Rat) := (Fm.num_eq a).symm
theorem above_iff (a b e : Rat) : (a.num * (b.den : Int) + b.num * (a.den : Int)) * (e.den : Int) < e.num * ((a.den : Int) * (b.den : Int)) ↔ a + b < e := by
  have ha : a * (a.den : Rat) = (a.num : Rat) := num_is a
  have hb : b * (b.den : Rat) = (b.num : Rat) := num_is b
  have he : e * (e.den : Rat) = (e.num : Rat) := num_is e
  have pa : (0 : Rat) < (a.den : Rat) := by have := dpos a; exact_mod_cast this
  have pb : (0 : Rat) < (b.den : Rat) := by have := dpos b; exact_mod_cast this
  have pe : (0 : Rat) < (e.den : Rat) := by have := dpos e; exact_mod_cast this
  have pd : (0 : Rat) < (a.den : Rat) * (b.den : Rat) * (e.den : Rat) := Rat.mul_pos (Rat.mul_pos pa pb) pe
  rw [← Rat.intCast_lt_intCast]
  have e1 : (((a.num * (b.den : Int) + b.num * (a.den : Int)) * (e.den : Int) : Int) : Rat) = (a + b) * ((a.den : Rat) * (b.den : Rat) * (e.den : Rat)) := by
    rw [Rat.intCast_mul, Rat.intCast_add, Rat.intCast_mul, Rat.intCast_mul, ← ha, ← hb]
    show (a * (a.den : Rat) * (b.den : Rat) + b * (b.den : Rat) * (a.den : Rat)) * (e.den : Rat) = _
    grind
  have e2 : ((e.num * ((a.den : Int) * (b.den : Int)) : Int) : Rat) = e * ((a.den : Rat) * (b.den : Rat) * (e.den : Rat)) := by
    rw [Rat.intCast_mul, Rat.intCast_mul, ← he]
    show e * (e.den : Rat) * ((a.den : Rat) * (b.den : Rat)) = _
    grind
  rw [e1, e2]
  constructor
  · intro h
    refine Rat.not_le.mp fun z => ?_
    have := Rat.mul_le_mul_of_nonneg_right z (Rat.le_of_lt pd)
    grind
  · intro h
    exact Rat.mul_lt_mul_of_pos_right h pd
noncomputable def wAbove : DW := fun ds Q _ => ∃ (kd : Str) (e a b : Rat) (D Da : Nat), ds = [.str kd, fr e, fr a, fr b] ∧ Dg D e ∧ Dg Da a ∧ Dg D b ∧ D + Da ≤ 2300 ∧ D ≤ 2300 ∧ Ok e ∧ Q (.dat (.bool (decide (joinR kd a b < e))))
theorem ok_is_above (T : Txt K mg A) : FnOk P w K mg base (CXE P w) 2 A.a_is_above A.d_is_above ["kind", "entry", "one", "other"] (spW K wAbove) := by
  have G_is_less := ok_is_lessR (P := P) (w := w) (base := base) T
  refine okW T.F_is_above sc_is_above (fun ds Q E h => ?_) (fun cdv Ar outer s H E hr => ?_)
  · obtain ⟨_, _, _, _, _, _, rfl, _⟩ := h; rfl
  refine ⟨_, (pss_cons (ps_if (pt_cmpR op_eq (pv 0) pe_str (nomark _)) (pss_one (ps_ret (pe_and (pe_call G_is_less (hr.mono (by decide)) rfl T.m_is_less T.F_is_less.kp T.b_is_less .nil passE0 (pa_cons (pv 2) (pa_cons (pv 1) pa_nil))) (pe_one (pe_call G_is_less (hr.mono (by decide)) rfl T.m_is_less T.F_is_less.kp T.b_is_less .nil passE0 (pa_cons (pv 3) (pa_cons (pv 1) pa_nil))))))) pss_nil)
      (pss_one (ps_ret (pe_call G_is_less (hr.mono (by decide)) rfl T.m_is_less T.F_is_less.kp T.b_is_less .nil passE0 (pa_cons (pe_tup (pa_cons (pe_op op_add (pe_op op_mulB (pe_ix (ixtK (K := K) rfl) (pv 2) pe_int (fun _ _ => rfl)) (pe_ix (ixtK (K := K) rfl) (pv 3) pe_int (fun _ _ => rfl))) (pe_op op_mulB (pe_ix (ixtK (K := K) rfl) (pv 3) pe_int (fun _ _ => rfl)) (pe_ix (ixtK (K := K) rfl) (pv 2) pe_int (fun _ _ => rfl)))) (pa_cons (pe_op op_mulB (pe_ix (ixtK (K := K) rfl) (pv 2) pe_int (fun _ _ => rfl)) (pe_ix (ixtK (K := K) rfl) (pv 3) pe_int (fun _ _ => rfl))) pa_nil))) (pa_cons (pv 1) pa_nil)))))), _, (sv_seq (sv_if (tv_test (bv_ev (ev_op ro_eq (bv_var 0) (bv_ev ev_str)))) (sv_ret (bv_ev (ev_and (bv_ev (ev_call0 (av_cons (bv_var 2) (av_cons (bv_var 1) av_nil)))) (ev_call0 (av_cons (bv_var 3) (av_cons (bv_var 1) av_nil)))))) sv_next)
      (sv_ret (bv_ev (ev_call0 (av_cons (bv_ev (ev_tup (ae_cons (ev_op ro_i0 (bv_ev (ev_op ro_i (bv_ev (ev_ixk 0 (ev_var 2))) (bv_ev (ev_ixk 1 (ev_var 3))))) (bv_ev (ev_op ro_i (bv_ev (ev_ixk 0 (ev_var 3))) (bv_ev (ev_ixk 1 (ev_var 2)))))) (ae_cons (ev_op ro_i (bv_ev (ev_ixk 1 (ev_var 2))) (bv_ev (ev_ixk 1 (ev_var 3)))) ae_nil)) (by decide))) (av_cons (bv_var 1) av_nil)))))), ?_⟩
  rintro ds Q X ⟨kd, e, a, b, D, Da, rfl, de, da, db, hD, hD2, oe, k⟩
  have oa : Ok a := dgOk da (by omega)
  have ob : Ok b := dgOk db (by omega)
  unfold joinR at k
  walk_at "s"
  refine ite2 (fun c => ?_) (fun c => ?_)
  · have ek : kd = "far" := c
    rw [if_pos ek] at k
    walk_at "d"
    refine ⟨_, _, _, _, rfl, oa.n, oa.d, oe.n, oe.d, ?_⟩
    have e1 : decide (a.num * (e.den : Int) < e.num * (a.den : Int)) = decide (a < e) := by rw [decide_eq_decide]; exact Fm.less_iff a e
    have e2 : decide (b.num * (e.den : Int) < e.num * (b.den : Int)) = decide (b < e) := by rw [decide_eq_decide]; exact Fm.less_iff b e
    walk_at "d"
    refine ite2 (fun c2 => ?_) (fun c2 => ?_)
    · have ha : a < e := (Fm.less_iff a e).mp c2
      refine ⟨_, _, _, _, rfl, ob.n, ob.d, oe.n, oe.d, ?_⟩
      rw [e2]
      have e3 : decide ((if a < b then b else a) < e) = decide (b < e) := by
        rw [decide_eq_decide]
        split
        · exact Iff.rfl
        · exact ⟨fun _ => by grind, fun _ => ha⟩
      rw [e3] at k
      walk_at "d"
      exact k
    · have ha : ¬ a < e := fun z => c2 ((Fm.less_iff a e).mpr z)
      have e3 : decide ((if a < b then b else a) < e) = false := decide_eq_false (by split <;> grind)
      rw [e3] at k
      exact k
  · have nk : kd ≠ "far" := c
    rw [if_neg nk] at k
    have pr : ∀ {x y : Int}, x.natAbs ≤ 10 ^ Da → y.natAbs ≤ 10 ^ D → (x * y).natAbs ≤ 10 ^ (D + Da) := fun {x y} hx hy => by
      rw [Int.natAbs_mul, Nat.add_comm D Da, Nat.pow_add]
      exact Nat.mul_le_mul hx hy
    have p1 := pr da.n (y := (b.den : Int)) (by have := db.d; omega)
    have p2 := pr (x := (a.den : Int)) (by have := da.d; omega) db.n
    have p3 := pr (x := (a.den : Int)) (y := (b.den : Int)) (by have := da.d; omega) (by have := db.d; omega)
    rw [Int.mul_comm] at p2
    have hs : (a.num * (b.den : Int) + b.num * (a.den : Int)).natAbs ≤ 10 ^ (D + Da + 1) := by
      have := Int.natAbs_add_le (a.num * (b.den : Int)) (b.num * (a.den : Int))
      rw [Nat.pow_succ]
      omega
    walk_at "d"
    refine ⟨mulOk oa.n ob.d, mulOk ob.n oa.d, mulOk oa.d ob.d, _, _, _, _, rfl, tenWee hs (by omega), tenWee p3 (by omega), oe.n, oe.d, ?_⟩
    have e1 : decide ((a.num * (b.den : Int) + b.num * (a.den : Int)) * (e.den : Int) < e.num * ((a.den : Int) * (b.den : Int))) = decide (a + b < e) := by rw [decide_eq_decide]; exact above_iff a b e
    rw [e1]
    walk_at "d"
    exact k
end
structure MkC (L : Nat) (ms : List Mk) : Prop where
  n1 : 1 ≤ ms.length
  n60 : ms.length ≤ 60
  L0 : 0 < L
  L1 : L ≤ 10 ^ 100
  hc : ∀ m ∈ ms, Cm L (10 ^ 100) m.2.1
  hw : ∀ m ∈ ms, 1 ≤ m.2.2 ∧ m.2.2 ≤ 10 ^ 100
noncomputable def costL (kd : Str) (ms : List Mk) (l : Nat) : List Rat := (List.range (l + 1)).map fun f => cF kd (strch ms f l)
section
variable {P : Program} {w : World} {K : PySem.W.Frag} {mg : Str → Option Value} {base : Heap} {A : Adr}
noncomputable def wCostsTo : DW := fun ds Q _ => ∃ (kd : Str) (ms : List Mk) (L l : Nat), ds = [.str kd, .list (ms.map mk3), .int (l : Int)] ∧ kd ∈ kdsL ∧ MkC L ms ∧ l < ms.length ∧
  ((∀ f, f ≤ l → ∃ x, LevelOk kd (strch ms f l) x) → Q (.own ((costL kd ms l).map fr)))
theorem ok_costs_to (T : Txt K mg A) : FnOk P w K mg base (CXE P w) 8 A.a_costs_to A.d_costs_to ["kind", "marks", "last"] (spW K wCostsTo) := by
  have G_stretch_cost := ok_stretch_cost (P := P) (w := w) (base := base) T
  refine okW T.F_costs_to sc_costs_to (fun ds Q E h => ?_) (fun cdv Ar outer s H E hr => ?_)
  · obtain ⟨_, _, _, _, rfl, _⟩ := h; rfl
  refine ⟨_, (pss_one (ps_ret (pe_lc (cap := [none, some 0, some 1, some 2]) (NC := ["first", "kind", "marks", "last"]) rfl ⟨rfl, rfl, by decide +kernel, by decide +kernel, ⟨⟨_, rfl, rfl, rfl, rfl, rfl⟩, ⟨⟨_, rfl, rfl, rfl, rfl, rfl⟩, ⟨⟨_, rfl, rfl, rfl, rfl, rfl⟩, trivial⟩⟩⟩, (List.forall_mem_cons.2 ⟨rfl, (List.forall_mem_cons.2 ⟨rfl, (List.forall_mem_cons.2 ⟨rfl, (fun _ h => nomatch h)⟩)⟩)⟩), rfl⟩ (pi_range1 rfl T.n_range (pa_cons (pe_op op_add (pv 2) pe_int) pa_nil)) (fun _ _ _ _ => (pg_name (i := 0) (show List.Nodup (["first", "kind", "marks", "last"] : List Str) by decide) rfl (Or.inl rfl))) (fun _ _ _ _ => pts_nil) (fun _ _ _ _ => (pe_call G_stretch_cost (hr.mono (by decide)) rfl T.m_stretch_cost T.F_stretch_cost.kp T.b_stretch_cost .nil passE0 (pa_cons (pv 1) (pa_cons (pv 2) (pa_cons (pv 0) (pa_cons (pv 3) pa_nil))))))))), _, (sv_retO (ov_lc (IvS.e (is_rng1 (av_cons (bv_ev (ev_op ro_i0 (bv_var 2) (bv_ev ev_int))) av_nil))) (gv_name 0) tv_yes (ev_call0 (av_cons (bv_var 1) (av_cons (bv_var 2) (av_cons (bv_var 0) (av_cons (bv_var 3) av_nil))))) (by decide) (by decide))), ?_⟩
  rintro ds Q X ⟨kd, ms, L, l, rfl, hk, M, hl, k⟩
  walk_at "d"
  refine lc_mapP (fun f : Nat => PyData.int (0 + (f : Int) * 1)) fr (fun f : Nat => [cF kd (strch ms f l)]) (List.range (l + 1)) (fun f => ∃ x, LevelOk kd (strch ms f l) x) (by rw [List.length_range]; have := M.n60; omega) (fun Q h => by
      walk_at "d"
      refine ⟨⟨by omega, by have := M.n60; omega⟩, ?_⟩
      have e : ((l : Int) + 1).toNat = l + 1 := by omega
      rw [e]; exact h) (fun f hf N acc hN => ?_) (fun hp => ?_)
  · have hf2 := List.mem_range.mp hf
    walk_at "d"
    refine ⟨kd, ms, L, f, l, by rw [show (0 : Int) + (f : Int) * 1 = (f : Int) by omega], hk, by omega, hl, M.n60, M.L0, M.L1, M.hc, M.hw, fun x hx => ?_⟩
    have hlen := str_len2 (f := f) hl
    rw [cF_is hk hx (fun e => by rw [e] at hlen; simp at hlen; omega) fun m hm => (M.hw m (str_mem2 hm)).1]
    walk_at "d"
    exact hN ⟨x, hx⟩
  · rw [flat_single]
    exact k fun f hf => hp f (List.mem_range.mpr (by omega))
noncomputable def costT (kd : Str) (ms : List Mk) : List PyData := (List.range ms.length).map fun l => PyData.list ((costL kd ms l).map fr)
noncomputable def wAllCosts : DW := fun ds Q _ => ∃ (kd : Str) (ms : List Mk) (L : Nat), ds = [.str kd, .list (ms.map mk3)] ∧ kd ∈ kdsL ∧ MkC L ms ∧
  ((∀ f l, f ≤ l → l < ms.length → ∃ x, LevelOk kd (strch ms f l) x) → Q (.own (costT kd ms)))
theorem ok_all_costs (T : Txt K mg A) : FnOk P w K mg base (CXE P w) 9 A.a_all_costs A.d_all_costs ["kind", "marks"] (spW K wAllCosts) := by
  have G_costs_to := ok_costs_to (P := P) (w := w) (base := base) T
  refine okW T.F_all_costs sc_all_costs (fun ds Q E h => ?_) (fun cdv Ar outer s H E hr => ?_)
  · obtain ⟨_, _, _, rfl, _⟩ := h; rfl
  refine ⟨_, (pss_one (ps_ret (pe_lc (cap := [none, some 0, some 1]) (NC := ["last", "kind", "marks"]) rfl ⟨rfl, rfl, by decide +kernel, by decide +kernel, ⟨⟨_, rfl, rfl, rfl, rfl, rfl⟩, ⟨⟨_, rfl, rfl, rfl, rfl, rfl⟩, trivial⟩⟩, (List.forall_mem_cons.2 ⟨rfl, (List.forall_mem_cons.2 ⟨rfl, (fun _ h => nomatch h)⟩)⟩), rfl⟩ (pi_range1 rfl T.n_range (pa_cons (pe_callB (lenK (K := K) rfl) rfl T.n_len PySem.boot_len (pa_cons (pv 1) pa_nil)) pa_nil)) (fun _ _ _ _ => (pg_name (i := 0) (show List.Nodup (["last", "kind", "marks"] : List Str) by decide) rfl (Or.inl rfl))) (fun _ _ _ _ => pts_nil) (fun _ _ _ _ => (pe_call G_costs_to (hr.mono (by decide)) rfl T.m_costs_to T.F_costs_to.kp T.b_costs_to .nil passE0 (pa_cons (pv 1) (pa_cons (pv 2) (pa_cons (pv 0) pa_nil)))))))), _, (sv_retO (ov_lc (IvS.e (is_rng1 (av_cons (bv_ev (ev_cb rb_len (av_cons (bv_var 1) av_nil))) av_nil))) (gv_name 0) tv_yes (ev_ov (ov_call0 (av_cons (bv_var 1) (av_cons (bv_var 2) (av_cons (bv_var 0) av_nil))))) (by decide) (by decide))), ?_⟩
  rintro ds Q X ⟨kd, ms, L, rfl, hk, M, k⟩
  walk_at "d"
  refine lc_mapP (fun f : Nat => PyData.int (0 + (f : Int) * 1)) (fun l : Nat => PyData.list ((costL kd ms l).map fr)) (fun l : Nat => [l]) (List.range ms.length) (fun l => ∀ f, f ≤ l → ∃ x, LevelOk kd (strch ms f l) x) (by rw [List.length_range]; have := M.n60; omega) (fun Q h => by
      walk_at "d"
      rw [Int.toNat_natCast]
      exact ⟨⟨by omega, by have := M.n60; omega⟩, h⟩) (fun l hl N acc hN => ?_) (fun hp => ?_)
  · have hl2 := List.mem_range.mp hl
    walk_at "d"
    refine ⟨kd, ms, L, l, by rw [show (0 : Int) + (l : Int) * 1 = (l : Int) by omega], hk, M, hl2, fun hx => ?_⟩
    have hN2 := hN hx
    walk_at "d"
    exact ⟨frs_flat _, hN2⟩
  · rw [flat_single]
    have e : (List.range ms.length).map (fun l => l) = List.range ms.length := List.map_id _
    rw [e]
    exact k fun f l hf hl => hp l (List.mem_range.mpr hl) f hf
end
theorem cut_take {α β : Type} (f : α → β) (xs : List α) (n : Nat) : cutL (xs.map f) none (some (n : Int)) = (xs.take n).map f := by
  unfold cutL
  rw [HT.sIx_none, HT.sIx_nat]
  simp only [List.length_map, List.drop_zero, Nat.sub_zero]
  rw [← List.map_take]
  congr 1
  by_cases h : xs.length ≤ n
  · rw [List.take_of_length_le h]
    exact List.take_of_length_le (by omega)
  · congr 1
    omega
theorem enumD_map {α : Type} (f : α → PyData) : ∀ (k : Nat) (xs : List α), enumD k (xs.map f) = (xs.zipIdx k).map fun p => PyData.tuple [.int (p.2 : Int), f p.1]
  | k, [] => rfl
  | k, x :: xs => by
    have := enumD_map f (k + 1) xs
    simp [Dl.enumD, this]
theorem atI_fr {qs : List Rat} {k : Int} {j : Nat} (e : k = (j : Int)) (h : j < qs.length) : atI (qs.map fr) k = some (fr (qs.getD j 0)) := by
  rw [atI_mk (xs := qs) fr (by omega) (by omega), e, Int.toNat_natCast]
  simp [List.getD, h]
theorem getD_mem2 {xs : List Rat} {j : Nat} (h : j < xs.length) : xs.getD j 0 ∈ xs := by
  have e : xs.getD j 0 = xs[j] := by simp [List.getD, h]
  rw [e]; exact List.getElem_mem h
theorem best_dg {kd : Str} {c : Nat → Nat → Rat} {a : Nat → Rat} {i D Da : Nat} : ∀ m, (∀ f, f ≤ i → Dg D (c f i)) → (∀ h, h < m → Dg Da (a h)) → m ≤ i → Dg (D + Da + 1) (bestTo kd c a i m).1
  | 0, hc, _, _ => (hc 0 (by omega)).mono (by omega)
  | m + 1, hc, ha, hm => by
    unfold bestTo
    split
    · have h1 := ha m (by omega)
      have h2 := hc (m + 1) (by omega)
      show Dg _ (joinR kd (a m) (c (m + 1) i))
      unfold joinR
      split
      · split
        · exact h2.mono (by omega)
        · exact h1.mono (by omega)
      · exact (h1.add h2).mono (by omega)
    · exact best_dg m hc (fun h hh => ha h (by omega)) (by omega)
section
variable {P : Program} {w : World} {K : PySem.W.Frag} {mg : Str → Option Value} {base : Heap} {A : Adr}
noncomputable def wBest : DW := fun ds Q _ => ∃ (kd : Str) (c a : List Rat) (I D Da : Nat), ds = [.str kd, .list (c.map fr), .list (a.map fr)] ∧ kd ∈ kdsL ∧ c.length = I + 1 ∧ I < 60 ∧ a.length ≤ 60 ∧ (∀ q ∈ c, Dg D q) ∧ (∀ q ∈ a, Dg Da q) ∧ D + 2 * Da + 1 ≤ 2300 ∧
  Q (.dat (.tuple [fr (bestTo kd (fun f _ => c.getD f 0) (fun h => a.getD h 0) I (min I a.length)).1, .int ((bestTo kd (fun f _ => c.getD f 0) (fun h => a.getD h 0) I (min I a.length)).2 : Int)]))
theorem ok_best_entry (T : Txt K mg A) : FnOk P w K mg base (CXE P w) 4 A.a_best_entry A.d_best_entry ["kind", "costs", "entries_ahead"] (spW K wBest) := by
  have G_is_above := ok_is_above (P := P) (w := w) (base := base) T
  have G_joined := ok_joined (P := P) (w := w) (base := base) T
  refine okW T.F_best_entry sc_best_entry (fun ds Q E h => ?_) (fun cdv Ar outer s H E hr => ?_)
  · obtain ⟨_, _, _, _, _, _, rfl, _⟩ := h; rfl
  refine ⟨_, (pss_cons (ps_set (i := 3) sc_best_entry.nd rfl (Or.inl rfl) (pe_ix (ixlK (K := K) rfl) (pv 1) pe_int (fun _ _ => rfl)))
      (pss_cons (ps_set (i := 4) sc_best_entry.nd rfl (Or.inl rfl) pe_int)
      (pss_cons (ps_for PassesOwn.leaving rfl (pi_enumerate (K := K) rfl rfl T.n_enumerate (pa_cons (pe_slice (sllK (K := K) rfl) (pv 2) po_none (po_some (pe_op op_sub (pe_callB (lenK (K := K) rfl) rfl T.n_len PySem.boot_len (pa_cons (pv 1) pa_nil)) pe_int))) pa_nil)) (pgtK (K := K) (n := 2) rfl rfl (pgs_cons (pg_name (i := 5) sc_best_entry.nd rfl (Or.inl rfl)) (pgs_cons (pg_name (i := 6) sc_best_entry.nd rfl (Or.inl rfl)) pgs_nil)))
        (pss_one (ps_if (pt_val (pe_call G_is_above (hr.mono (by decide)) rfl T.m_is_above T.F_is_above.kp T.b_is_above .nil passE0 (pa_cons (pv 0) (pa_cons (pv 3) (pa_cons (pv 6) (pa_cons (pe_ix (ixlK (K := K) rfl) (pv 1) (pe_op op_add (pv 5) pe_int) (fun _ _ => rfl)) pa_nil)))))) (pss_cons (ps_set (i := 3) sc_best_entry.nd rfl (Or.inl rfl) (pe_call G_joined (hr.mono (by decide)) rfl T.m_joined T.F_joined.kp T.b_joined .nil passE0 (pa_cons (pv 0) (pa_cons (pv 6) (pa_cons (pe_ix (ixlK (K := K) rfl) (pv 1) (pe_op op_add (pv 5) pe_int) (fun _ _ => rfl)) pa_nil)))))
      (pss_one (ps_set (i := 4) sc_best_entry.nd rfl (Or.inl rfl) (pe_op op_add (pv 5) pe_int)))) pss_nil)))
      (pss_one (ps_ret (pe_tup (pa_cons (pv 3) (pa_cons (pv 4) pa_nil)))))))), _, (sv_seq (sv_asg (ev_ixl (lv_var 1) (bv_ev ev_int)) (gv_name 3))
      (sv_seq (sv_asg ev_int (gv_name 4))
      (sv_seq (sv_for (is_enum (ev_ov (ov_sl (lv_var 2) op_no (op_part (bv_ev (ev_op ro_i0 (bv_ev (ev_cb rb_len (av_cons (bv_var 1) av_nil))) (bv_ev ev_int))))))) (gv_tup (gs_cons (gv_name 5) (gs_cons (gv_name 6) gs_nil)))
        (sv_if (tv_b (bv_ev (ev_call0 (av_cons (bv_var 0) (av_cons (bv_var 3) (av_cons (bv_var 6) (av_cons (bv_ev (ev_ixl (lv_var 1) (bv_ev (ev_op ro_i0 (bv_var 5) (bv_ev ev_int))))) av_nil))))))) (sv_seq (sv_asg (ev_call0 (av_cons (bv_var 0) (av_cons (bv_var 6) (av_cons (bv_ev (ev_ixl (lv_var 1) (bv_ev (ev_op ro_i0 (bv_var 5) (bv_ev ev_int))))) av_nil)))) (gv_name 3))
      (sv_asg (ev_op ro_i0 (bv_var 5) (bv_ev ev_int)) (gv_name 4))) sv_next))
      (sv_ret (bv_ev (ev_tup (ae_cons (ev_var 3) (ae_cons (ev_var 4) ae_nil)) (by decide))))))), ?_⟩
  rintro ds Q X ⟨kd, c, a, I, D, Da, rfl, hk, cl, I60, al, hc, ha, hD, k⟩
  obtain ⟨B, hB⟩ : ∃ B, bestTo kd (fun f _ => c.getD f 0) (fun h => a.getD h 0) I = B := ⟨_, rfl⟩
  rw [hB] at k
  have hcd : ∀ f, f ≤ I → Dg D (c.getD f 0) := fun f hf => hc _ (getD_mem2 (by omega))
  have had : ∀ h, h < a.length → Dg Da (a.getD h 0) := fun h hh => ha _ (getD_mem2 hh)
  have hBd : ∀ m, m ≤ min I a.length → Dg (D + Da + 1) (B m).1 := fun m hm => by rw [← hB]; exact best_dg m hcd (fun h hh => had h (by omega)) (by omega)
  walk_at "s"
  refine ⟨_, atI_fr (j := 0) rfl (by omega), ?_⟩
  have tl : (a.take I).length = min I a.length := List.length_take
  walk_at "s"
  refine seq_mk (for_map (fun p : Rat × Nat => PyData.tuple [.int (p.2 : Int), fr p.1]) ((a.take I).zipIdx 0) (fun Q h => by
      walk_at "d"
      rw [cl, show ((I + 1 : Nat) : Int) - 1 = (I : Int) by omega, cut_take, enumD_map]
      exact h) (fun i δ => ∃ s5 s6 : Option Sl, δ = [some (.dat (.str kd)), some (.dat (.list (c.map fr))), some (.dat (.list (a.map fr))), some (.dat (fr (B i).1)), some (.dat (.int ((B i).2 : Int))), s5, s6]) ⟨none, none, by rw [← hB]; rfl⟩ ?_ ?_)
  · rintro i ⟨q, ix⟩ δ hi ⟨s5, s6, rfl⟩
    obtain ⟨hi1, hi2⟩ : i < min I a.length ∧ (q, ix) = (a.getD i 0, i) := by
      rw [List.getElem?_zipIdx] at hi
      have hlt : i < (a.take I).length := by
        cases h : (a.take I)[i]? with
        | none => rw [h] at hi; cases hi
        | some z => exact (List.getElem?_eq_some_iff.mp h).1
      rw [tl] at hlt
      refine ⟨hlt, ?_⟩
      have e : (a.take I)[i]? = some (a.getD i 0) := by
        rw [List.getElem?_take_of_lt (by omega), List.getD_eq_getElem?_getD, List.getElem?_eq_getElem (by omega)]
        rfl
      rw [e] at hi
      simp at hi
      rw [← hi.1, ← hi.2, List.getD_eq_getElem?_getD]
    cases hi2
    have d1 := hBd i (by omega)
    have d2 := had i (by omega)
    have d3 := hcd (i + 1) (by omega)
    have eB : B (i + 1) = if joinR kd (a.getD i 0) (c.getD (i + 1) 0) < (B i).1 then (joinR kd (a.getD i 0) (c.getD (i + 1) 0), i + 1) else B i := by rw [← hB]; rfl
    walk_at "d"
    refine ⟨_, atI_fr (j := i + 1) (by omega) (by omega), kd, _, _, _, D + Da + 1, Da, rfl, d1, d2, d3.mono (by omega), by omega, by omega, dgOk d1 (by omega), ?_⟩
    walk_at "d"
    refine ite2 (fun c2 => ?_) (fun c2 => ?_)
    · walk_at "s"
      refine ⟨_, atI_fr (j := i + 1) (by omega) (by omega), .str kd, _, _, rfl, dgOk d2 (by omega), dgOk d3 (by omega), fun k' e => by cases e; exact kds_ok hk, fun k' e _ => ?_, fun h => absurd hk (h _ rfl)⟩
      cases e
      walk_at "d"
      rw [eB, if_pos c2]
      exact ⟨_, _, rfl⟩
    · rw [eB, if_neg c2]
      walk_at "d"
      exact ⟨_, _, rfl⟩
  · rintro δ ⟨s5, s6, rfl⟩
    rw [List.length_zipIdx, tl]
    walk_at "d"
    exact k
end
noncomputable def startI (kd : Str) (ms : List Mk) (j : Nat) : List Int := (List.range ms.length).map fun i => ((tabE kd (fun f l => cF kd (strch ms f l)) j i).2 : Int)
noncomputable def startT (kd : Str) (ms : List Mk) (k : Nat) : List PyData := (List.range k).map fun j => PyData.list ((startI kd ms j).map PyData.int)
theorem startT_at {kd : Str} {ms : List Mk} {k j : Nat} (h : j < k) : atI (startT kd ms k) (j : Int) = some (PyData.list ((startI kd ms j).map PyData.int)) := atI_nat (by simp [startT, h])
theorem startI_at {kd : Str} {ms : List Mk} {j i : Nat} (h : i < ms.length) : atI ((startI kd ms j).map PyData.int) (i : Int) = some (PyData.int ((tabE kd (fun f l => cF kd (strch ms f l)) j i).2 : Int)) := atI_nat (by simp [startI, h])
theorem cut_str2 {ms : List Mk} {f l : Nat} (hfl : f ≤ l) (hl : l < ms.length) : cutL (ms.map mk3) (some (f : Int)) (some ((l + 1 : Nat) : Int)) = (strch ms f l).map mk3 := by
  rw [cutL_map]
  unfold cutL strch
  rw [HT.sIx_nat, HT.sIx_nat, List.drop_take, Nat.min_eq_left (by omega), Nat.min_eq_left (by omega)]
section
variable {P : Program} {w : World} {K : PySem.W.Frag} {mg : Str → Option Value} {base : Heap} {A : Adr}
noncomputable def wLaidR : DW := fun ds Q _ => ∃ (kd : Str) (ms : List Mk) (L k : Nat), ds = [.str kd, .list (ms.map mk3), .list (startT kd ms (k + 1))] ∧ kd ∈ kdsL ∧ MkC L ms ∧ k ≤ 59 ∧ ∀ row, Laid kd ms k (ms.length - 1) row → Q (.own (row.map fr))
theorem ok_laid_row (T : Txt K mg A) : FnOk P w K mg base (CXE P w) 6 A.a_laid_row A.d_laid_row ["kind", "marks", "starts"] (spW K wLaidR) := by
  have G_least_level := ok_least_level (P := P) (w := w) (base := base) T
  refine okW T.F_laid_row sc_laid_row (fun ds Q E h => ?_) (fun cdv Ar outer s H E hr => ?_)
  · obtain ⟨_, _, _, _, rfl, _⟩ := h; rfl
  refine ⟨_, (pss_cons (ps_set (i := 3) sc_laid_row.nd rfl (Or.inl rfl) (pe_lst pa_nil))
      (pss_cons (ps_set (i := 4) sc_laid_row.nd rfl (Or.inl rfl) (pe_callB (lenK (K := K) rfl) rfl T.n_len PySem.boot_len (pa_cons (pv 1) pa_nil)))
      (pss_cons (ps_set (i := 5) sc_laid_row.nd rfl (Or.inl rfl) (pe_op op_sub (pe_callB (lenK (K := K) rfl) rfl T.n_len PySem.boot_len (pa_cons (pv 2) pa_nil)) pe_int))
      (pss_cons (ps_while PassesOwn.leaving (pt_cmpR op_gt (pv 4) pe_int (nomark _)) (pss_cons (ps_set (i := 6) sc_laid_row.nd rfl (Or.inl rfl) (pe_ix (ixlK (K := K) rfl) (pe_ix (ixlK (K := K) rfl) (pv 2) (pv 5) (fun _ _ => rfl)) (pe_op op_sub (pv 4) pe_int) (fun _ _ => rfl)))
      (pss_cons (ps_set (i := 7) sc_laid_row.nd rfl (Or.inl rfl) (pe_slice (sllK (K := K) rfl) (pv 1) (po_some (pv 6)) (po_some (pv 4))))
      (pss_cons (ps_set (i := 3) sc_laid_row.nd rfl (Or.inl rfl) (pe_op op_cat (pe_op op_rep (pe_lst (pa_cons (pe_call G_least_level (hr.mono (by decide)) rfl T.m_least_level T.F_least_level.kp T.b_least_level .nil passE0 (pa_cons (pv 0) (pa_cons (pv 7) pa_nil))) pa_nil)) (pe_callB (lenK (K := K) rfl) rfl T.n_len PySem.boot_len (pa_cons (pv 7) pa_nil))) (pv 3)))
      (pss_cons (ps_set (i := 4) sc_laid_row.nd rfl (Or.inl rfl) (pv 6))
      (pss_one (ps_set (i := 5) sc_laid_row.nd rfl (Or.inl rfl) (pe_op op_sub (pv 5) pe_int))))))))
      (pss_one (ps_ret (pv 3))))))), _, (sv_seq (sv_setO 3 (ov_lst ae_nil (by decide)))
      (sv_seq (sv_asg (ev_cb rb_len (av_cons (bv_var 1) av_nil)) (gv_name 4))
      (sv_seq (sv_asg (ev_op ro_i0 (bv_ev (ev_cb rb_len (av_cons (bv_var 2) av_nil))) (bv_ev ev_int)) (gv_name 5))
      (sv_seq (sv_while (tv_test (bv_ev (ev_op ro_b0 (bv_var 4) (bv_ev ev_int)))) (sv_seq (sv_asg (ev_ixl (lv_ev (ev_ixl (lv_var 2) (bv_var 5))) (bv_ev (ev_op ro_i0 (bv_var 4) (bv_ev ev_int)))) (gv_name 6))
      (sv_seq (sv_setO 7 (ov_sl (lv_var 1) (op_part (bv_var 6)) (op_part (bv_var 4))))
      (sv_seq (sv_setO 3 (ov_cat (mv_ov (ov_rep (mv_ov (ov_lst (ae_cons (ev_call0 (av_cons (bv_var 0) (av_cons (bv_var 7) av_nil))) ae_nil) (by decide))) (bv_ev (ev_cb rb_len (av_cons (bv_var 7) av_nil))))) (mv_var 3)))
      (sv_seq (sv_asg (ev_var 6) (gv_name 4))
      (sv_asg (ev_op ro_i0 (bv_var 5) (bv_ev ev_int)) (gv_name 5)))))))
      (sv_retV 3))))), ?_⟩
  rintro ds Q X ⟨kd, ms, L, k, rfl, hk, M, k59, kq⟩
  have n1 := M.n1
  have n60 := M.n60
  have stl : (startT kd ms (k + 1)).length = k + 1 := by simp [startT]
  walk_at "s"
  walk_at "s"
  walk_at "s"
  refine seq_mk ?_
  refine ⟨fun m δ => ∃ (row : List Rat) (sp : Int) (s6 s7 : Option Sl), δ = [some (.dat (.str kd)), some (.dat (.list (ms.map mk3))), some (.dat (.list (startT kd ms (k + 1)))), some (.own (row.map fr)), some (.dat (.int (m : Int))), some (.dat (.int sp)), s6, s7] ∧ row.length + m = ms.length ∧ (m = 0 → Laid kd ms k (ms.length - 1) row) ∧
      (0 < m → ∃ j : Nat, sp = (j : Int) ∧ j ≤ k ∧ ∀ r, Laid kd ms j (m - 1) r → Laid kd ms k (ms.length - 1) (r ++ row)),
    ⟨ms.length, [], _, none, none, by rw [stl]; rfl, by simp, fun h => by omega, fun _ => ⟨k, by omega, Nat.le_refl _, fun r hr => by rw [List.append_nil]; exact hr⟩⟩, ?_⟩
  rintro m δ ⟨row, sp, s6, s7, rfl, hlen, h0, h1⟩
  walk_at "d"
  refine ite2 (fun c => ?_) (fun c => ?_)
  · have m0 : 0 < m := by omega
    obtain ⟨j, rfl, jk, hr⟩ := h1 m0
    obtain ⟨i, rfl⟩ : ∃ i, m = i + 1 := ⟨m - 1, by omega⟩
    have hi : i < ms.length := by omega
    walk_at "s"
    refine ⟨_, startT_at (by omega), ?_⟩
    dsimp only
    refine ⟨_, by rw [show ((i + 1 : Nat) : Int) - 1 = (i : Int) by omega]; exact startI_at hi, ?_⟩
    obtain ⟨f, hf⟩ : ∃ f, (tabE kd (fun f l => cF kd (strch ms f l)) j i).2 = f := ⟨_, rfl⟩
    have fi : f ≤ i := by
      rcases tab_cases (kd := kd) (ms := ms) j i with h | ⟨j', h, _, hl, e⟩
      · rw [h] at hf; simp at hf; omega
      · rw [e] at hf; simp at hf; omega
    rw [hf]
    walk_at "s"
    rw [cut_str2 fi hi]
    obtain ⟨S, hS⟩ : ∃ S, strch ms f i = S := ⟨_, rfl⟩
    have Sl : S.length = i + 1 - f := by rw [← hS]; exact str_len2 hi
    have Sm : ∀ m ∈ S, m ∈ ms := fun m h => by rw [← hS] at h; exact str_mem2 h
    rw [hS]
    walk_at "s"
    refine ⟨kd, S, L, rfl, hk, by omega, by omega, M.L0, M.L1, fun m h => M.hc m (Sm m h), fun m h => M.hw m (Sm m h), fun x hx => ?_⟩
    have hx2 : LevelOk kd (strch ms f i) x := by rw [hS]; exact hx
    walk_at "d"
    rw [Int.toNat_natCast, rep_frx]
    refine ⟨⟨by omega, by omega⟩, by omega, by rw [List.length_map, List.length_replicate]; omega, ?_⟩
    walk_at "s"
    walk_at "d"
    rw [← List.map_append]
    refine ⟨f, by omega, List.replicate S.length x ++ row, (j : Int) - 1, some (.dat (.int (f : Int))), some (.own (S.map mk3)), rfl, by rw [List.length_append, List.length_replicate]; omega, fun e => ?_, fun e => ?_⟩
    · subst e
      have e2 : S.length = i + 1 := by omega
      rw [e2]
      exact hr _ (.base hf hx2)
    · rcases tab_cases (kd := kd) (ms := ms) j i with h | ⟨j', h, ej, hl, e2⟩
      · rw [h] at hf; simp at hf; omega
      · subst ej
        have ef : f = h + 1 := by rw [e2] at hf; simp at hf; omega
        subst ef
        refine ⟨j', by omega, by omega, fun r hL => ?_⟩
        have e3 : S.length = i - h := by omega
        rw [← List.append_assoc, e3]
        exact hr _ (.step hf hl hL hx2)
  · walk_at "d"
    exact kq row (h0 (by omega))
end
theorem best_congr {kd : Str} {c c' : Nat → Nat → Rat} {a a' : Nat → Rat} {i : Nat} : ∀ m, (∀ f, f ≤ m → c f i = c' f i) → (∀ h, h < m → a h = a' h) → bestTo kd c a i m = bestTo kd c' a' i m
  | 0, hc, _ => by unfold bestTo; rw [hc 0 (by omega)]
  | m + 1, hc, ha => by
    unfold bestTo
    rw [best_congr m (fun f hf => hc f (by omega)) fun h hh => ha h (by omega), hc (m + 1) (by omega), ha m (by omega)]
noncomputable def entL (kd : Str) (ms : List Mk) : Nat → List Rat
  | 0 => []
  | j + 1 => (List.range ms.length).map fun i => (tabE kd (fun f l => cF kd (strch ms f l)) j i).1
noncomputable def tableT (kd : Str) (ms : List Mk) (k : Nat) : List PyData := (List.range k).map fun j => PyData.list ((entL kd ms (j + 1)).map fr)
theorem tab_dg {kd : Str} {ms : List Mk} {D : Nat} (hD : ∀ f l, f ≤ l → l < ms.length → Dg D (cF kd (strch ms f l))) : ∀ j i, i < ms.length → Dg ((D + 1) * (i + 1)) (tabE kd (fun f l => cF kd (strch ms f l)) j i).1
  | j, i, hi => by
    rcases tab_cases (kd := kd) (ms := ms) j i with h | ⟨j', h, rfl, hl, e⟩
    · rw [h]
      exact (hD 0 i (by omega) hi).mono (by rw [Nat.mul_add]; omega)
    · rw [e]
      have h1 := tab_dg hD j' h (by omega)
      have h2 := hD (h + 1) i (by omega) hi
      have hm : (D + 1) * (h + 1) + (D + 1) ≤ (D + 1) * (i + 1) := by
        rw [← Nat.mul_succ]
        exact Nat.mul_le_mul_left _ (by omega)
      show Dg _ (joinR kd _ _)
      unfold joinR
      split
      · split
        · exact h2.mono (by omega)
        · exact h1.mono (by omega)
      · exact (h1.add h2).mono (by omega)
theorem costL_at {kd : Str} {ms : List Mk} {l f : Nat} (h : f ≤ l) : (costL kd ms l).getD f 0 = cF kd (strch ms f l) := by
  have : f < l + 1 := by omega
  simp [costL, List.getD_eq_getElem?_getD, this]
theorem entL_at {kd : Str} {ms : List Mk} {j h : Nat} (hh : h < ms.length) : (entL kd ms (j + 1)).getD h 0 = (tabE kd (fun f l => cF kd (strch ms f l)) j h).1 := by
  simp [entL, List.getD_eq_getElem?_getD, hh]
theorem best_tab {kd : Str} {ms : List Mk} (i : Nat) {l : Nat} (hl : l < ms.length) : bestTo kd (fun f _ => (costL kd ms l).getD f 0) (fun h => (entL kd ms i).getD h 0) l (min l (entL kd ms i).length) = tabE kd (fun f l => cF kd (strch ms f l)) i l := by
  cases i with
  | zero =>
    have e : min l (entL kd ms 0).length = 0 := by simp [entL]
    rw [e]
    unfold bestTo tabE
    rw [costL_at (by omega)]
  | succ j =>
    have e : min l (entL kd ms (j + 1)).length = l := by simp [entL]; omega
    rw [e]
    show _ = bestTo kd _ _ l l
    exact best_congr l (fun f hf => costL_at hf) fun h hh => entL_at (by omega)
section
variable {P : Program} {w : World} {K : PySem.W.Frag} {mg : Str → Option Value} {base : Heap} {A : Adr}
noncomputable def prE (p : Rat × Nat) : PyData := .tuple [fr p.1, .int (p.2 : Int)]
noncomputable def wStep : DW := fun ds Q _ => ∃ (kd : Str) (ms : List Mk) (L k D : Nat), ds = [.str kd, .list (ms.map mk3), .int (k : Int)] ∧ kd ∈ kdsL ∧ MkC L ms ∧ k ≤ 59 ∧ (∀ f l, f ≤ l → l < ms.length → Dg D (cF kd (strch ms f l))) ∧ D + 2 * ((D + 1) * ms.length) + 1 ≤ 2300 ∧
  ((∀ f l, f ≤ l → l < ms.length → ∃ x, LevelOk kd (strch ms f l) x) → ∀ row, Laid kd ms k (ms.length - 1) row → ∀ as, Q (.fz as (.tuple [.list (row.map fr), .list (tableT kd ms (k + 1))])))
theorem ok_step_least (T : Txt K mg A) : FnOk P w K mg base (CXE P w) 10 A.a_step_least A.d_step_least ["kind", "marks", "k"] (spW K wStep) := by
  have G_check_kind := ok_check_kind (P := P) (w := w) (base := base) T
  have G_all_costs := ok_all_costs (P := P) (w := w) (base := base) T
  have G_best_entry := ok_best_entry (P := P) (w := w) (base := base) T
  have G_laid_row := ok_laid_row (P := P) (w := w) (base := base) T
  refine okW T.F_step_least sc_step_least (fun ds Q E h => ?_) (fun cdv Ar outer s H E hr => ?_)
  · obtain ⟨_, _, _, _, _, rfl, _⟩ := h; rfl
  refine ⟨_, (pss_cons (ps_expr (pe_call G_check_kind (hr.mono (by decide)) rfl T.m_check_kind T.F_check_kind.kp T.b_check_kind .nil passE0 (pa_cons (pv 0) pa_nil)))
      (pss_cons (ps_if (PW.pt (pw_or (pt_cmpR op_lt (pv 2) pe_int (nomark _)) (pw_or1 (pt_cmpR op_gt (pv 2) (pe_glob rfl T.c_MOST_STEPS.choose_spec (show RelV (.int 59) _ from ⟨_, rfl⟩)) (nomark _))))) (pss_one (ps_raise T.x_NoNumber hr.hd pass_own rfl (pa_cons pe_str pa_nil))) pss_nil)
      (pss_cons (ps_set (i := 3) sc_step_least.nd rfl (Or.inl rfl) (pe_call G_all_costs (hr.mono (by decide)) rfl T.m_all_costs T.F_all_costs.kp T.b_all_costs .nil passE0 (pa_cons (pv 0) (pa_cons (pv 1) pa_nil))))
      (pss_cons (ps_set (i := 4) sc_step_least.nd rfl (Or.inl rfl) (pe_lst pa_nil))
      (pss_cons (ps_set (i := 5) sc_step_least.nd rfl (Or.inl rfl) (pe_lst pa_nil))
      (pss_cons (ps_set (i := 6) sc_step_least.nd rfl (Or.inr rfl) (pe_lst pa_nil))
      (pss_cons (ps_for PassesOwn.leaving rfl (pi_range1 rfl T.n_range (pa_cons (pe_op op_add (pv 2) pe_int) pa_nil)) (pg_name (i := 7) sc_step_least.nd rfl (Or.inl rfl))
        (pss_cons (ps_setLC (i := 8) (cap := [none, some 0, some 6]) (NC := ["some", "kind", "entries"]) sc_step_least.nd rfl rfl rfl ⟨rfl, rfl, by decide +kernel, by decide +kernel, ⟨⟨_, rfl, rfl, rfl, rfl, rfl⟩, ⟨⟨_, rfl, rfl, rfl, rfl, rfl⟩, trivial⟩⟩, (List.forall_mem_cons.2 ⟨rfl, (List.forall_mem_cons.2 ⟨rfl, (fun _ h => nomatch h)⟩)⟩), rfl⟩ (pilK (K := K) rfl (pv 3)) (fun _ _ _ _ => (pg_name (i := 0) (show List.Nodup (["some", "kind", "entries"] : List Str) by decide) rfl (Or.inl rfl))) (fun _ _ _ _ => pts_nil) (fun _ _ _ _ => (pe_call G_best_entry (hr.mono (by decide)) rfl T.m_best_entry T.F_best_entry.kp T.b_best_entry .nil passE0 (pa_cons (pv 1) (pa_cons (pv 0) (pa_cons (pv 2) pa_nil))))))
      (pss_cons (ps_set (i := 6) sc_step_least.nd rfl (Or.inr rfl) (pe_lc (cap := [none]) (NC := ["one"]) rfl ⟨rfl, rfl, by decide +kernel, by decide +kernel, trivial, (fun _ h => nomatch h), rfl⟩ (pilK (K := K) rfl (pv 8)) (fun _ _ _ _ => (pg_name (i := 0) (show List.Nodup (["one"] : List Str) by decide) rfl (Or.inl rfl))) (fun _ _ _ _ => pts_nil) (fun _ _ _ _ => (pe_ix (ixtK (K := K) rfl) (pv 0) pe_int (fun _ _ => rfl)))))
      (pss_cons (ps_expr (pe_bm PySem.F.plainAttrs_list PySem.F.slot_list_append PySem.F.type_list_append mt_append (pv 4) (pa_cons (pv 6) pa_nil)))
      (pss_one (ps_expr (pe_bm PySem.F.plainAttrs_list PySem.F.slot_list_append PySem.F.type_list_append mt_append (pv 5) (pa_cons (pe_lc (cap := [none]) (NC := ["one"]) rfl ⟨rfl, rfl, by decide +kernel, by decide +kernel, trivial, (fun _ h => nomatch h), rfl⟩ (pilK (K := K) rfl (pv 8)) (fun _ _ _ _ => (pg_name (i := 0) (show List.Nodup (["one"] : List Str) by decide) rfl (Or.inl rfl))) (fun _ _ _ _ => pts_nil) (fun _ _ _ _ => (pe_ix (ixtK (K := K) rfl) (pv 0) pe_int (fun _ _ => rfl)))) pa_nil))))))))
      (pss_one (ps_ret (pe_tup (pa_cons (pe_call G_laid_row (hr.mono (by decide)) rfl T.m_laid_row T.F_laid_row.kp T.b_laid_row .nil passE0 (pa_cons (pv 0) (pa_cons (pv 1) (pa_cons (pv 5) pa_nil)))) (pa_cons (pv 4) pa_nil)))))))))))), _, (sv_seq (sv_expr (bv_ev (ev_call0 (av_cons (bv_var 0) av_nil))))
      (sv_seq (sv_if (tv_or (tv_test (bv_ev (ev_op ro_b0 (bv_var 2) (bv_ev ev_int)))) (tv_test (bv_ev (ev_op ro_b0 (bv_var 2) (bv_ev ev_int))))) (sv_raise (ae_cons ev_str ae_nil) (by decide)) sv_next)
      (sv_seq (sv_asgN0 (av_cons (bv_var 0) (av_cons (bv_var 1) av_nil)) (gv_name 3))
      (sv_seq (sv_setO 4 (ov_lst ae_nil (by decide)))
      (sv_seq (sv_setO 5 (ov_lst ae_nil (by decide)))
      (sv_seq (sv_setO 6 (ov_lst ae_nil (by decide)))
      (sv_frz 6 (sv_rows 7 8 6 4 5 (by decide) (is_rng1 (av_cons (bv_ev (ev_op ro_i0 (bv_var 2) (bv_ev ev_int))) av_nil))
      (ov_lc (ie_list (lv_var 3)) (gv_name 0) tv_yes (ev_call0 (av_cons (bv_var 1) (av_cons (bv_var 0) (av_cons (bv_var 2) av_nil)))) (by decide) (by decide))
      (ov_lc (ie_list (lv_var 8)) (gv_name 0) tv_yes (ev_ixk 0 (ev_var 0)) (by decide) (by decide))
      (ev_ov (ov_lc (ie_list (lv_var 8)) (gv_name 0) tv_yes (ev_ixk 1 (ev_var 0)) (by decide) (by decide)))
      (ov_call0 (av_cons (bv_var 0) (av_cons (bv_var 1) (av_cons (bv_var 5) av_nil)))))))))))), ?_⟩
  rintro ds Q X ⟨kd, ms, L, k, D, rfl, hk, M, k59, hDg, hDn, kq⟩
  have n60 := M.n60
  walk_at "s"
  refine ⟨.str kd, rfl, fun k' e => by cases e; exact kds_ok hk, fun _ => ?_, fun h => absurd hk (h _ rfl)⟩
  walk_at "s"
  refine ite2 (fun c => absurd c (by omega)) (fun _ => ite2 (fun c => absurd c (by omega)) (fun _ => ?_))
  walk_at "s"
  refine ⟨kd, ms, L, rfl, hk, M, fun hx => ?_⟩
  have kq2 := kq hx
  walk_at "d"
  walk_at "s"
  walk_at "s"
  walk_at "s"
  walk_at "d"
  have ek : ((k : Int) + 1).toNat = k + 1 := by omega
  rw [ek]
  refine ⟨⟨by omega, by omega⟩, fun i δ => ∃ s7 s8 : Option Sl, δ = [some (.dat (.str kd)), some (.dat (.list (ms.map mk3))), some (.dat (.int (k : Int))), some (.dat (.list (costT kd ms))), some (.own (tableT kd ms i)), some (.own (startT kd ms i)), some (.dat (.list ((entL kd ms i).map fr))), s7, s8], ⟨none, none, rfl⟩, fun i d δ' hi0 hI => ?_, fun δ' hI => ?_⟩
  · obtain ⟨s7, s8, rfl⟩ := hI
    obtain ⟨hi, rfl⟩ := rngD_at hi0
    have el : (entL kd ms i).length ≤ 60 := by cases i <;> simp [entL]; omega
    have ed : ∀ q ∈ entL kd ms i, Dg ((D + 1) * ms.length) q := fun q hq => by
      cases i with
      | zero => cases hq
      | succ j =>
        obtain ⟨h, hh, rfl⟩ := List.mem_map.mp hq
        have hh2 := List.mem_range.mp hh
        exact (tab_dg hDg j h hh2).mono (Nat.mul_le_mul_left _ (by omega))
    walk_at "d"
    refine lc_map (fun l : Nat => PyData.list ((costL kd ms l).map fr)) prE (fun l : Nat => [tabE kd (fun f l => cF kd (strch ms f l)) i l]) (List.range ms.length) (by rw [List.length_range]; omega) (fun Q h => h) (fun l hl N acc hN => ?_) ?_
    · have hl2 := List.mem_range.mp hl
      walk_at "d"
      refine ⟨kd, costL kd ms l, entL kd ms i, l, D, (D + 1) * ms.length, rfl, hk, by simp [costL], by omega, el, fun q hq => ?_, ed, by omega, ?_⟩
      · obtain ⟨f, hf, rfl⟩ := List.mem_map.mp hq
        have := List.mem_range.mp hf
        exact hDg f l (by omega) hl2
      rw [best_tab i hl2]
      walk_at "d"
      exact hN
    rw [flat_single]
    walk_at "d"
    refine lc_map prE fr (fun p : Rat × Nat => [p.1]) _ (by rw [List.length_map, List.length_range]; omega) (fun Q h => h) (fun p hp N acc hN => ?_) ?_
    · unfold prE
      walk_at "d"
      exact hN
    rw [flat_single]
    have e3 : ((List.range ms.length).map fun l => tabE kd (fun f l => cF kd (strch ms f l)) i l).map (fun p => p.1) = entL kd ms (i + 1) := by simp [entL]
    have e4 : ((List.range ms.length).map fun l => tabE kd (fun f l => cF kd (strch ms f l)) i l).map (fun p => (p.2 : Int)) = startI kd ms i := by simp [startI]
    have e1 : tableT kd ms i ++ [PyData.list ((entL kd ms (i + 1)).map fr)] = tableT kd ms (i + 1) := by simp [tableT, List.range_succ]
    have e2 : startT kd ms i ++ [PyData.list ((startI kd ms i).map PyData.int)] = startT kd ms (i + 1) := by simp [startT, List.range_succ]
    rw [e3]
    refine ⟨tableT kd ms i, startT kd ms i, rfl, rfl, by simp [tableT]; omega, by simp [startT]; omega, by simp, ?_⟩
    walk_at "d"
    refine lc_map prE PyData.int (fun p : Rat × Nat => [(p.2 : Int)]) _ (by rw [List.length_map, List.length_range]; omega) (fun Q h => h) (fun p hp N acc hN => ?_) ?_
    · unfold prE
      walk_at "d"
      exact hN
    rw [flat_single, e4, e1, e2]
    exact ⟨_, _, rfl⟩
  · rw [rngD_len] at hI
    obtain ⟨s7, s8, rfl⟩ := hI
    walk_at "d"
    refine ⟨kd, ms, L, k, rfl, hk, M, k59, fun row hr => ?_⟩
    walk_at "d"
    exact ⟨frs_flat _, _, rfl, kq2 row hr⟩
noncomputable def wLLess : DW := fun ds Q _ => ∃ a b : Rat, ds = [fr a, fr b] ∧ Ok a ∧ Ok b ∧ Q (.dat (.bool (decide (a < b))))
theorem ok_law_less (T : Txt K mg A) : FnOk P w K mg base (CXE P w) 1 A.a_law_less A.d_law_less ["one", "other"] (spW K wLLess) := by
  refine okW T.F_law_less sc_law_less (fun ds Q E h => ?_) (fun cdv Ar outer s H E hr => ?_)
  · obtain ⟨_, _, rfl, _⟩ := h; rfl
  refine ⟨_, (pss_one (ps_ret (pe_cmpR op_lt (pe_op op_mulB (pe_ix (ixtK (K := K) rfl) (pv 0) pe_int (fun _ _ => rfl)) (pe_ix (ixtK (K := K) rfl) (pv 1) pe_int (fun _ _ => rfl))) (pe_op op_mulB (pe_ix (ixtK (K := K) rfl) (pv 1) pe_int (fun _ _ => rfl)) (pe_ix (ixtK (K := K) rfl) (pv 0) pe_int (fun _ _ => rfl))) (nomark _)))), _, (sv_ret (bv_ev (ev_op ro_b0 (bv_ev (ev_op ro_i (bv_ev (ev_ixk 0 (ev_var 0))) (bv_ev (ev_ixk 1 (ev_var 1))))) (bv_ev (ev_op ro_i (bv_ev (ev_ixk 0 (ev_var 1))) (bv_ev (ev_ixk 1 (ev_var 0)))))))), ?_⟩
  rintro ds Q X ⟨a, b, rfl, oa, ob, k⟩
  walk_at "d"
  refine ⟨mulOk oa.n ob.d, mulOk ob.n oa.d, ?_⟩
  have e : decide (a.num * (b.den : Int) < b.num * (a.den : Int)) = decide (a < b) := by rw [decide_eq_decide]; exact Fm.less_iff a b
  rw [e]
  exact k
theorem sum_is (a b : Rat) : Rat.divInt (a.num * (b.den : Int) + b.num * (a.den : Int)) ((a.den : Int) * (b.den : Int)) = a + b := by
  have ha := num_is a
  have hb := num_is b
  have pa := dpos a
  have pb := dpos b
  refine (Fm.eq_divInt (Int.mul_ne_zero (by omega) (by omega)) ?_).symm
  rw [Rat.intCast_mul, Rat.intCast_add, Rat.intCast_mul, Rat.intCast_mul, ← ha, ← hb]
  show (a + b) * ((a.den : Rat) * (b.den : Rat)) = a * (a.den : Rat) * (b.den : Rat) + b * (b.den : Rat) * (a.den : Rat)
  grind
noncomputable def wLJoin : DW := fun ds Q _ => ∃ (kd : Str) (a b : Rat) (Da Db : Nat), ds = [.str kd, fr a, fr b] ∧ Dg Da a ∧ Dg Db b ∧ Da + Db ≤ 2300 ∧ Q (.dat (fr (joinR kd a b)))
theorem ok_law_joined (T : Txt K mg A) : FnOk P w K mg base (CXE P w) 2 A.a_law_joined A.d_law_joined ["kind", "one", "other"] (spW K wLJoin) := by
  have G_law_less := ok_law_less (P := P) (w := w) (base := base) T
  have G_law_lowest := ok_law_lowest (P := P) (w := w) (base := base) T
  refine okW T.F_law_joined sc_law_joined (fun ds Q E h => ?_) (fun cdv Ar outer s H E hr => ?_)
  · obtain ⟨_, _, _, _, _, rfl, _⟩ := h; rfl
  refine ⟨_, (pss_cons (ps_if (pt_cmpR op_eq (pv 0) pe_str (nomark _)) (pss_cons (ps_if (pt_val (pe_call G_law_less (hr.mono (by decide)) rfl T.m_law_less T.F_law_less.kp T.b_law_less .nil passE0 (pa_cons (pv 1) (pa_cons (pv 2) pa_nil)))) (pss_one (ps_ret (pv 2))) pss_nil)
      (pss_one (ps_ret (pv 1)))) pss_nil)
      (pss_one (ps_ret (pe_call G_law_lowest (hr.mono (by decide)) rfl T.m_law_lowest T.F_law_lowest.kp T.b_law_lowest .nil passE0 (pa_cons (pe_op op_add (pe_op op_mulB (pe_ix (ixtK (K := K) rfl) (pv 1) pe_int (fun _ _ => rfl)) (pe_ix (ixtK (K := K) rfl) (pv 2) pe_int (fun _ _ => rfl))) (pe_op op_mulB (pe_ix (ixtK (K := K) rfl) (pv 2) pe_int (fun _ _ => rfl)) (pe_ix (ixtK (K := K) rfl) (pv 1) pe_int (fun _ _ => rfl)))) (pa_cons (pe_op op_mulB (pe_ix (ixtK (K := K) rfl) (pv 1) pe_int (fun _ _ => rfl)) (pe_ix (ixtK (K := K) rfl) (pv 2) pe_int (fun _ _ => rfl))) pa_nil)))))), _, (sv_seq (sv_if (tv_test (bv_ev (ev_op ro_eq (bv_var 0) (bv_ev ev_str)))) (sv_seq (sv_if (tv_b (bv_ev (ev_call0 (av_cons (bv_var 1) (av_cons (bv_var 2) av_nil))))) (sv_retV 2) sv_next)
      (sv_retV 1)) sv_next)
      (sv_ret (bv_ev (ev_call0 (av_cons (bv_ev (ev_op ro_i0 (bv_ev (ev_op ro_i (bv_ev (ev_ixk 0 (ev_var 1))) (bv_ev (ev_ixk 1 (ev_var 2))))) (bv_ev (ev_op ro_i (bv_ev (ev_ixk 0 (ev_var 2))) (bv_ev (ev_ixk 1 (ev_var 1))))))) (av_cons (bv_ev (ev_op ro_i (bv_ev (ev_ixk 1 (ev_var 1))) (bv_ev (ev_ixk 1 (ev_var 2))))) av_nil)))))), ?_⟩
  rintro ds Q X ⟨kd, a, b, Da, Db, rfl, da, db, hD, k⟩
  have oa : Ok a := dgOk da (by omega)
  have ob : Ok b := dgOk db (by omega)
  unfold joinR at k
  walk_at "s"
  refine ite2 (fun c => ?_) (fun c => ?_)
  · have ek : kd = "far" := c
    rw [if_pos ek] at k
    walk_at "s"
    refine ⟨a, b, rfl, oa, ob, ?_⟩
    walk_at "d"
    refine ite2 (fun c2 => ?_) (fun c2 => ?_)
    · rw [if_pos c2] at k
      exact k
    · rw [if_neg c2] at k
      walk_at "d"
      exact k
  · have nk : kd ≠ "far" := c
    rw [if_neg nk] at k
    walk_at "d"
    have p3 : ((a.den : Int) * (b.den : Int)).natAbs ≤ 10 ^ (Da + Db) := by
      rw [Int.natAbs_mul, Nat.pow_add]
      exact Nat.mul_le_mul (by have := da.d; omega) (by have := db.d; omega)
    refine ⟨mulOk oa.n ob.d, mulOk ob.n oa.d, mulOk oa.d ob.d, _, _, rfl, Int.mul_pos (dpos a) (dpos b), tenWee p3 (by omega), ?_⟩
    rw [sum_is]
    walk_at "d"
    exact k
theorem maxR_one {x : Rat} (h : 0 ≤ x) : maxR [x] = x := (maxR_eq h (.inr (by simp)) fun y hy => by rw [List.mem_singleton.mp hy]; exact Rat.le_refl).symm
theorem meas_one (kd : Str) (m : Mk) (h : Rat) : meas kd [m] [h] = if kd = "far" then absR (m.2.1 - h) else if kd = "sum" then absR ((m.2.2 : Rat) * (m.2.1 - h)) else (m.2.2 : Rat) * (m.2.1 - h) * (m.2.1 - h) := by
  unfold meas missR wmissR sqR wmissR missR
  by_cases h1 : kd = "far"
  · rw [if_pos h1, if_pos h1]
    exact maxR_one (absR_nn _)
  · rw [if_neg h1, if_neg h1]
    by_cases h2 : kd = "sum"
    · rw [if_pos h2, if_pos h2]
      show absR _ + 0 = _
      grind
    · rw [if_neg h2, if_neg h2]
      show _ + 0 = _
      grind
theorem diff_is (a b : Rat) : Rat.divInt (a.num * (b.den : Int) - b.num * (a.den : Int)) ((a.den : Int) * (b.den : Int)) = a - b := by
  have ha := num_is a
  have hb := num_is b
  have pa := dpos a
  have pb := dpos b
  refine (Fm.eq_divInt (Int.mul_ne_zero (by omega) (by omega)) ?_).symm
  rw [Rat.intCast_mul, Rat.intCast_sub, Rat.intCast_mul, Rat.intCast_mul, ← ha, ← hb]
  show (a - b) * ((a.den : Rat) * (b.den : Rat)) = a * (a.den : Rat) * (b.den : Rat) - b * (b.den : Rat) * (a.den : Rat)
  grind
theorem absDiv {x y : Int} (hy : 0 < y) : Rat.divInt (if x < 0 then -x else x) y = absR (Rat.divInt x y) := by
  have y0 : (0 : Rat) < (y : Rat) := Rat.intCast_pos.mpr hy
  have yi : (0 : Rat) < (y : Rat)⁻¹ := Rat.inv_pos.mpr y0
  rw [dv_q, dv_q, Rat.div_def, Rat.div_def]
  by_cases h : x < 0
  · rw [if_pos h]
    have hx : (x : Rat) ≤ 0 := by
      have := Rat.intCast_le_intCast.mpr (show x ≤ 0 by omega)
      exact this
    have h2 : 0 ≤ (-(x : Rat)) * (y : Rat)⁻¹ := Rat.mul_nonneg (by grind) (Rat.le_of_lt yi)
    rw [absR_neg (by grind), Rat.intCast_neg]
    grind
  · rw [if_neg h]
    have hx : (0 : Rat) ≤ (x : Rat) := Rat.intCast_nonneg.mpr (by omega)
    rw [absR_pos (Rat.mul_nonneg hx (Rat.le_of_lt yi))]
theorem take_one {α : Type} {xs : List α} {i : Nat} {x : α} (h : xs[i]? = some x) : xs.take (i + 1) = xs.take i ++ [x] := by
  rw [List.take_add_one, h]; rfl
theorem dg0 (n : Nat) : Dg n 0 := by
  refine ⟨?_, ?_⟩
  · show Int.natAbs 0 ≤ _; simp
  · show (1 : Nat) ≤ _; exact Nat.pow_pos (by decide : 0 < 10)
theorem dgInt {n : Nat} {v : Int} (h : v.natAbs ≤ 10 ^ n) : Dg n (v : Rat) := ⟨h, by show (1 : Nat) ≤ _; exact Nat.pow_pos (by decide : 0 < 10)⟩
theorem dgAbs {n : Nat} {q : Rat} (h : Dg n q) : Dg n (absR q) := by
  rcases absR_cases q with ⟨_, e⟩ | ⟨_, e⟩ <;> rw [e]
  · exact h
  · exact h.neg
theorem one_dg {kd : Str} {m : Mk} {h : Rat} {Dh Dr wd : Nat} (h1 : Dg Dh m.2.1) (h2 : m.2.2.natAbs ≤ 10 ^ wd) (h3 : Dg Dr h) : Dg (2 * (Dh + Dr + 1) + wd + 2) (meas kd [m] [h]) := by
  rw [meas_one]
  have d1 := h1.sub h3
  have d2 := (dgInt h2).mul d1
  split
  · exact (dgAbs d1).mono (by omega)
  · split
    · exact (dgAbs d2).mono (by omega)
    · exact (d2.mul d1).mono (by omega)
theorem join_dg {kd : Str} {a b : Rat} {Da Db : Nat} (h1 : Dg Da a) (h2 : Dg Db b) : Dg (Da + Db + 1) (joinR kd a b) := by
  unfold joinR
  split
  · split
    · exact h2.mono (by omega)
    · exact h1.mono (by omega)
  · exact h1.add h2
theorem meas_snoc {kd : Str} {ms : List Mk} {row : List Rat} {i : Nat} {m : Mk} {h : Rat} (hm : ms[i]? = some m) (hh : row[i]? = some h) : meas kd (ms.take (i + 1)) (row.take (i + 1)) = joinR kd (meas kd (ms.take i) (row.take i)) (meas kd [m] [h]) := by
  rw [take_one hm, take_one hh]
  refine meas_app kd ?_
  have := (List.getElem?_eq_some_iff.mp hm).1
  have := (List.getElem?_eq_some_iff.mp hh).1
  rw [List.length_take, List.length_take]; omega
theorem sqDiv {w tp bt : Int} {d : Rat} (hb : 0 < bt) (h : Rat.divInt tp bt = absR d) : Rat.divInt (w * tp * tp) (bt * bt) = (w : Rat) * d * d := by
  have b0 : (bt : Rat) ≠ 0 := fun z => by have := Rat.intCast_pos.mpr hb; grind
  have h2 : absR d * (bt : Rat) = (tp : Rat) := by
    rw [← h, dv_q]
    exact Rat.div_mul_cancel b0
  have e6 : absR d * absR d = d * d := by
    rcases absR_cases d with ⟨_, z⟩ | ⟨_, z⟩ <;> rw [z]
    grind
  refine (Fm.eq_divInt (Int.mul_ne_zero (by omega) (by omega)) ?_).symm
  rw [Rat.intCast_mul, Rat.intCast_mul, Rat.intCast_mul, ← h2]
  have e7 : (w : Rat) * (absR d * (bt : Rat)) * (absR d * (bt : Rat)) = (w : Rat) * (absR d * absR d) * ((bt : Rat) * (bt : Rat)) := by grind
  rw [e7, e6]
  grind
noncomputable def wMissed : DW := fun ds Q _ => ∃ (kd : Str) (ms : List Mk) (row : List Rat) (Dh Dr wd : Nat), ds = [.str kd, .list (ms.map mk3), .list (row.map fr)] ∧ kd ∈ kdsL ∧ row.length = ms.length ∧ ms.length ≤ 60 ∧ (∀ m ∈ ms, Dg Dh m.2.1 ∧ 1 ≤ m.2.2 ∧ m.2.2.natAbs ≤ 10 ^ wd) ∧ (∀ q ∈ row, Dg Dr q) ∧
  (ms.length + 1) * (2 * (Dh + Dr + 1) + wd + 3) ≤ 2300 ∧ Q (.dat (fr (meas kd ms row)))
theorem ok_law_missed (T : Txt K mg A) : FnOk P w K mg base (CXE P w) 3 A.a_law_missed A.d_law_missed ["kind", "some", "row"] (spW K wMissed) := by
  have G_law_joined := ok_law_joined (P := P) (w := w) (base := base) T
  have G_law_lowest := ok_law_lowest (P := P) (w := w) (base := base) T
  refine okW T.F_law_missed sc_law_missed (fun ds Q E h => ?_) (fun cdv Ar outer s H E hr => ?_)
  · obtain ⟨_, _, _, _, _, _, rfl, _⟩ := h; rfl
  refine ⟨_, (pss_cons (ps_set (i := 3) sc_law_missed.nd rfl (Or.inl rfl) (pe_tup (pa_cons pe_int (pa_cons pe_int pa_nil))))
      (pss_cons (ps_for PassesOwn.leaving rfl (pi_zip (K := K) rfl rfl T.n_zip (pa_cons (pv 1) (pa_cons (pv 2) pa_nil))) (pgtK (K := K) (n := 2) rfl rfl (pgs_cons (pg_name (i := 4) sc_law_missed.nd rfl (Or.inl rfl)) (pgs_cons (pg_name (i := 5) sc_law_missed.nd rfl (Or.inl rfl)) pgs_nil)))
        (pss_cons (ps_set (i := 6) sc_law_missed.nd rfl (Or.inl rfl) (pe_callB call_abs rfl T.n_abs bt_abs (pa_cons (pe_op op_sub (pe_op op_mulB (pe_ix (ixtK (K := K) rfl) (pe_ix (ixtK (K := K) rfl) (pv 4) pe_int (fun _ _ => rfl)) pe_int (fun _ _ => rfl)) (pe_ix (ixtK (K := K) rfl) (pv 5) pe_int (fun _ _ => rfl))) (pe_op op_mulB (pe_ix (ixtK (K := K) rfl) (pv 5) pe_int (fun _ _ => rfl)) (pe_ix (ixtK (K := K) rfl) (pe_ix (ixtK (K := K) rfl) (pv 4) pe_int (fun _ _ => rfl)) pe_int (fun _ _ => rfl)))) pa_nil)))
      (pss_cons (ps_set (i := 7) sc_law_missed.nd rfl (Or.inl rfl) (pe_op op_mulB (pe_ix (ixtK (K := K) rfl) (pe_ix (ixtK (K := K) rfl) (pv 4) pe_int (fun _ _ => rfl)) pe_int (fun _ _ => rfl)) (pe_ix (ixtK (K := K) rfl) (pv 5) pe_int (fun _ _ => rfl))))
      (pss_cons (ps_if (pt_cmpR op_eq (pv 0) pe_str (nomark _)) (pss_one (ps_set (i := 3) sc_law_missed.nd rfl (Or.inl rfl) (pe_call G_law_joined (hr.mono (by decide)) rfl T.m_law_joined T.F_law_joined.kp T.b_law_joined .nil passE0 (pa_cons (pv 0) (pa_cons (pv 3) (pa_cons (pe_call G_law_lowest (hr.mono (by decide)) rfl T.m_law_lowest T.F_law_lowest.kp T.b_law_lowest .nil passE0 (pa_cons (pv 6) (pa_cons (pv 7) pa_nil))) pa_nil)))))) pss_nil)
      (pss_cons (ps_if (pt_cmpR op_eq (pv 0) pe_str (nomark _)) (pss_one (ps_set (i := 3) sc_law_missed.nd rfl (Or.inl rfl) (pe_call G_law_joined (hr.mono (by decide)) rfl T.m_law_joined T.F_law_joined.kp T.b_law_joined .nil passE0 (pa_cons (pv 0) (pa_cons (pv 3) (pa_cons (pe_call G_law_lowest (hr.mono (by decide)) rfl T.m_law_lowest T.F_law_lowest.kp T.b_law_lowest .nil passE0 (pa_cons (pe_op op_mulB (pe_ix (ixtK (K := K) rfl) (pv 4) pe_int (fun _ _ => rfl)) (pv 6)) (pa_cons (pv 7) pa_nil))) pa_nil)))))) pss_nil)
      (pss_one (ps_if (pt_cmpR op_eq (pv 0) pe_str (nomark _)) (pss_one (ps_set (i := 3) sc_law_missed.nd rfl (Or.inl rfl) (pe_call G_law_joined (hr.mono (by decide)) rfl T.m_law_joined T.F_law_joined.kp T.b_law_joined .nil passE0 (pa_cons (pv 0) (pa_cons (pv 3) (pa_cons (pe_call G_law_lowest (hr.mono (by decide)) rfl T.m_law_lowest T.F_law_lowest.kp T.b_law_lowest .nil passE0 (pa_cons (pe_op op_mulB (pe_op op_mulB (pe_ix (ixtK (K := K) rfl) (pv 4) pe_int (fun _ _ => rfl)) (pv 6)) (pv 6)) (pa_cons (pe_op op_mulB (pv 7) (pv 7)) pa_nil))) pa_nil)))))) pss_nil)))))))
      (pss_one (ps_ret (pv 3))))), _, (sv_seq (sv_asg (ev_tup (ae_cons ev_int (ae_cons ev_int ae_nil)) (by decide)) (gv_name 3))
      (sv_seq (sv_for (is_zip (ev_var 1) (ev_var 2)) (gv_tup (gs_cons (gv_name 4) (gs_cons (gv_name 5) gs_nil)))
        (sv_seq (sv_asg (ev_cb rb_abs (av_cons (bv_ev (ev_op ro_i0 (bv_ev (ev_op ro_i (bv_ev (ev_ixk 0 (ev_ixk 1 (ev_var 4)))) (bv_ev (ev_ixk 1 (ev_var 5))))) (bv_ev (ev_op ro_i (bv_ev (ev_ixk 0 (ev_var 5))) (bv_ev (ev_ixk 1 (ev_ixk 1 (ev_var 4)))))))) av_nil)) (gv_name 6))
      (sv_seq (sv_asg (ev_op ro_i (bv_ev (ev_ixk 1 (ev_ixk 1 (ev_var 4)))) (bv_ev (ev_ixk 1 (ev_var 5)))) (gv_name 7))
      (sv_seq (sv_if (tv_test (bv_ev (ev_op ro_eq (bv_var 0) (bv_ev ev_str)))) (sv_asg (ev_call0 (av_cons (bv_var 0) (av_cons (bv_var 3) (av_cons (bv_ev (ev_call0 (av_cons (bv_var 6) (av_cons (bv_var 7) av_nil)))) av_nil)))) (gv_name 3)) sv_next)
      (sv_seq (sv_if (tv_test (bv_ev (ev_op ro_eq (bv_var 0) (bv_ev ev_str)))) (sv_asg (ev_call0 (av_cons (bv_var 0) (av_cons (bv_var 3) (av_cons (bv_ev (ev_call0 (av_cons (bv_ev (ev_op ro_i (bv_ev (ev_ixk 2 (ev_var 4))) (bv_var 6))) (av_cons (bv_var 7) av_nil)))) av_nil)))) (gv_name 3)) sv_next)
      (sv_if (tv_test (bv_ev (ev_op ro_eq (bv_var 0) (bv_ev ev_str)))) (sv_asg (ev_call0 (av_cons (bv_var 0) (av_cons (bv_var 3) (av_cons (bv_ev (ev_call0 (av_cons (bv_ev (ev_op ro_i (bv_ev (ev_op ro_i (bv_ev (ev_ixk 2 (ev_var 4))) (bv_var 6))) (bv_var 6))) (av_cons (bv_ev (ev_op ro_i (bv_var 7) (bv_var 7))) av_nil)))) av_nil)))) (gv_name 3)) sv_next))))))
      (sv_retV 3))), ?_⟩
  rintro ds Q X ⟨kd, ms, row, Dh, Dr, wd, rfl, hk, hl, n60, hm, hr2, hsz, k⟩
  walk_at "s"
  refine seq_mk (for_map (fun p : Mk × Rat => PyData.tuple [mk3 p.1, fr p.2]) (ms.zip row) (fun Q h => by
      walk_at "d"
      rw [pairD_map]; exact h)
    (fun i δ => ∃ s4 s5 s6 s7 : Option Sl, δ = [some (.dat (.str kd)), some (.dat (.list (ms.map mk3))), some (.dat (.list (row.map fr))), some (.dat (fr (meas kd (ms.take i) (row.take i)))), s4, s5, s6, s7] ∧ Dg (i * (2 * (Dh + Dr + 1) + wd + 3)) (meas kd (ms.take i) (row.take i))) ⟨none, none, none, none, ?_, ?_⟩ ?_ ?_)
  · have e : meas kd (ms.take 0) (row.take 0) = 0 := by
      unfold meas
      split
      · rfl
      · split <;> rfl
    rw [e]; rfl
  · have e : meas kd (ms.take 0) (row.take 0) = 0 := by
      unfold meas
      split
      · rfl
      · split <;> rfl
    rw [e]; exact dg0 _
  · rintro i ⟨m, h⟩ δ hi ⟨s4, s5, s6, s7, rfl, hd⟩
    obtain ⟨hi1, hi2⟩ := List.getElem?_zip_eq_some.mp hi
    have hmm := hm m (List.mem_of_getElem? hi1)
    have hhh := hr2 h (List.mem_of_getElem? hi2)
    have il : i < ms.length := (List.getElem?_eq_some_iff.mp hi1).1
    have e := meas_snoc (kd := kd) hi1 hi2
    obtain ⟨Di, hDi⟩ : ∃ Di, 2 * (Dh + Dr + 1) + wd + 2 = Di := ⟨_, rfl⟩
    have hsz2 : (i + 1) * (Di + 1) + (Di + 1) ≤ 2300 := by
      refine Nat.le_trans ?_ hsz
      rw [← Nat.succ_mul, ← hDi]
      exact Nat.mul_le_mul_right _ (by omega)
    have hone := one_dg (kd := kd) hmm.1 hmm.2.2 hhh
    rw [hDi] at hone
    rw [show 2 * (Dh + Dr + 1) + wd + 3 = Di + 1 by omega] at hd
    have hnx : Dg ((i + 1) * (Di + 1)) (meas kd (ms.take (i + 1)) (row.take (i + 1))) := by
      rw [e, Nat.succ_mul]
      exact (join_dg hd hone).mono (by omega)
    have om : Ok m.2.1 := dgOk hmm.1 (by omega)
    have oh : Ok h := dgOk hhh (by omega)
    have hf : 2 * (Dh + Dr + 1) + wd + 3 = Di + 1 := by omega
    obtain ⟨T0, hT0⟩ : ∃ T0, meas kd (ms.take i) (row.take i) = T0 := ⟨_, rfl⟩
    rw [hT0] at e hd ⊢
    walk_at "s"
    refine ⟨mulOk om.n oh.d, mulOk oh.n om.d, ?_⟩
    walk_at "s"
    refine ⟨mulOk om.d oh.d, ?_⟩
    have hq0 := absDiv (x := m.2.1.num * (h.den : Int) - h.num * (m.2.1.den : Int)) (y := (m.2.1.den : Int) * (h.den : Int)) (Int.mul_pos (dpos _) (dpos _))
    rw [diff_is] at hq0
    have pr : ∀ {x y : Int}, x.natAbs ≤ 10 ^ Dh → y.natAbs ≤ 10 ^ Dr → (x * y).natAbs ≤ 10 ^ (Dh + Dr) := fun {x y} hx hy => by
      rw [Int.natAbs_mul, Nat.pow_add]
      exact Nat.mul_le_mul hx hy
    have p1 := pr hmm.1.n (y := (h.den : Int)) (by have := hhh.d; omega)
    have p2 := pr (x := (m.2.1.den : Int)) (by have := hmm.1.d; omega) hhh.n
    rw [Int.mul_comm] at p2
    have p3 := pr (x := (m.2.1.den : Int)) (y := (h.den : Int)) (by have := hmm.1.d; omega) (by have := hhh.d; omega)
    have p4 : (if m.2.1.num * (h.den : Int) - h.num * (m.2.1.den : Int) < 0 then -(m.2.1.num * (h.den : Int) - h.num * (m.2.1.den : Int)) else m.2.1.num * (h.den : Int) - h.num * (m.2.1.den : Int)).natAbs ≤ 10 ^ (Dh + Dr + 1) := by
      rw [Nat.pow_succ]
      split <;> omega
    have b0 : (0 : Int) < (m.2.1.den : Int) * (h.den : Int) := Int.mul_pos (dpos _) (dpos _)
    obtain ⟨tp, htp⟩ : ∃ tp : Int, (if m.2.1.num * (h.den : Int) - h.num * (m.2.1.den : Int) < 0 then -(m.2.1.num * (h.den : Int) - h.num * (m.2.1.den : Int)) else m.2.1.num * (h.den : Int) - h.num * (m.2.1.den : Int)) = tp := ⟨_, rfl⟩
    obtain ⟨bt, hbt⟩ : ∃ bt : Int, (m.2.1.den : Int) * (h.den : Int) = bt := ⟨_, rfl⟩
    rw [htp] at hq0 p4 ⊢
    rw [hbt] at hq0 p3 b0 ⊢
    have wt : Wee tp := tenWee p4 (by omega)
    have wb : Wee bt := tenWee p3 (by omega)
    have ww : Wee m.2.2 := tenWee hmm.2.2 (by omega)
    have bq : (bt : Rat) ≠ 0 := fun z => by have := Rat.intCast_pos.mpr b0; grind
    rw [meas_one] at e hone
    have hk3 : kd = "far" ∨ kd = "sum" ∨ kd = "square" := by simpa [kdsL] using hk
    rw [hf] at *
    rcases hk3 with rfl | rfl | rfl
    · rw [if_pos rfl] at e hone
      walk_at "s"
      refine ⟨tp, bt, rfl, by omega, wb, ?_⟩
      rw [hq0]
      walk_at "d"
      refine ⟨_, _, _, _, _, rfl, hd, hone, by rw [Nat.succ_mul] at hsz2; omega, ?_⟩
      rw [← e]
      walk_at "s"
      refine ite2 (fun c => absurd c (by decide)) (fun _ => ?_)
      walk_at "d"
      refine ite2 (fun c => absurd c (by decide)) (fun _ => ?_)
      exact ⟨_, _, _, _, rfl, hnx⟩
    · rw [if_neg (by decide), if_pos rfl] at e hone
      walk_at "s"
      refine ite2 (fun c => absurd c (by decide)) (fun _ => ?_)
      walk_at "s"
      refine ⟨mulOk ww wt, m.2.2 * tp, bt, rfl, by omega, wb, ?_⟩
      have e5 : Rat.divInt (m.2.2 * tp) bt = absR ((m.2.2 : Rat) * (m.2.1 - h)) := by
        rw [absR_mulw hmm.2.1, ← hq0, dv_q, dv_q, Rat.intCast_mul]
        grind
      rw [e5]
      walk_at "d"
      refine ⟨_, _, _, _, _, rfl, hd, hone, by rw [Nat.succ_mul] at hsz2; omega, ?_⟩
      rw [← e]
      walk_at "d"
      refine ite2 (fun c => absurd c (by decide)) (fun _ => ?_)
      exact ⟨_, _, _, _, rfl, hnx⟩
    · rw [if_neg (by decide), if_neg (by decide)] at e hone
      walk_at "s"
      refine ite2 (fun c => absurd c (by decide)) (fun _ => ?_)
      walk_at "s"
      refine ite2 (fun c => absurd c (by decide)) (fun _ => ?_)
      walk_at "d"
      have q1 : (m.2.2 * tp).natAbs ≤ 10 ^ (wd + (Dh + Dr + 1)) := by
        rw [Int.natAbs_mul, Nat.pow_add]
        exact Nat.mul_le_mul hmm.2.2 p4
      have q2 : (bt * bt).natAbs ≤ 10 ^ ((Dh + Dr) + (Dh + Dr)) := by
        rw [Int.natAbs_mul, Nat.pow_add]
        exact Nat.mul_le_mul p3 p3
      have bb : 0 < bt * bt := Int.mul_pos b0 b0
      refine ⟨mulOk ww wt, mulOk (tenWee q1 (by omega)) wt, mulOk wb wb, m.2.2 * tp * tp, bt * bt, rfl, bb, tenWee q2 (by omega), ?_⟩
      have e5 : Rat.divInt (m.2.2 * tp * tp) (bt * bt) = (m.2.2 : Rat) * (m.2.1 - h) * (m.2.1 - h) := sqDiv b0 hq0
      rw [e5]
      walk_at "d"
      refine ⟨_, _, _, _, _, rfl, hd, hone, by rw [Nat.succ_mul] at hsz2; omega, ?_⟩
      rw [← e]
      walk_at "d"
      exact ⟨_, _, _, _, rfl, hnx⟩
  · rintro δ ⟨s4, s5, s6, s7, rfl, hd⟩
    have e : (ms.zip row).length = ms.length := by rw [List.length_zip]; omega
    have e2 : row.take ms.length = row := List.take_of_length_le (by omega)
    rw [e, List.take_length, e2]
    walk_at "d"
    exact k
end
theorem MSz.measDg {L B W l b wd : Nat} {ms : List Mk} {row : List Rat} (z : MSz L B W l b wd ms row) (kd : Str) : Dg (2 * l + 2 * b + wd + 6) (meas kd ms row) := by
  unfold meas
  split
  · rcases @maxR_mem ((missR ms row).map absR) with h | h
    · rw [h]; exact dg0 _
    · obtain ⟨x, hx, e⟩ := List.mem_map.mp h
      rw [← e]
      exact (dgAbs ((z.miss x hx).dg z.pos z.pL (two_ten z.pB))).mono (by omega)
  · split
    · have h := Cm.tot (qs := (wmissR ms row).map absR) (L := L) (B := W * (B + B)) fun q hq => by
        obtain ⟨x, hx, rfl⟩ := List.mem_map.mp hq
        exact (z.wmiss x hx).abs
      have hl : ((wmissR ms row).map absR).length ≤ 60 := by
        rw [List.length_map]; have := wmissR_len (ms := ms) (row := row); have := z.len; omega
      exact (h.dg z.pos z.pL (sixty_ten hl (mul_ten z.pW (two_ten z.pB)))).mono (by omega)
    · have h := Cm.tot (qs := sqR ms row) (L := L * L) (B := W * (B + B) * (B + B)) fun q hq => z.sq q hq
      have hl : (sqR ms row).length ≤ 60 := by
        have := sqR_len (ms := ms) (row := row); have := z.len; omega
      exact (h.dg (Nat.mul_pos z.pos z.pos) (mul_ten z.pL z.pL) (sixty_ten hl (mul_ten (mul_ten z.pW (two_ten z.pB)) (two_ten z.pB)))).mono (by omega)
structure MkS (L : Nat) (ms : List Mk) : Prop where
  n1 : 1 ≤ ms.length
  n12 : ms.length ≤ 12
  L0 : 0 < L
  L1 : L ≤ 10 ^ 6
  hc : ∀ m ∈ ms, Cm L (10 ^ 12) m.2.1
  hw : ∀ m ∈ ms, 1 ≤ m.2.2 ∧ m.2.2 ≤ 10 ^ 9
theorem MkS.c {L : Nat} {ms : List Mk} (M : MkS L ms) : MkC L ms :=
  ⟨M.n1, by have := M.n12; omega, M.L0, Nat.le_trans M.L1 (by decide +kernel), fun m h => (M.hc m h).mono (Nat.dvd_refl _) (by decide +kernel), fun m h => ⟨(M.hw m h).1, Int.le_trans (M.hw m h).2 (by decide +kernel)⟩⟩
theorem MkS.lev {L : Nat} {ms : List Mk} {kd : Str} {f l : Nat} {x : Rat} (M : MkS L ms) (hk : kd ∈ kdsL) (hfl : f ≤ l) (hl : l < ms.length) (X : LevelOk kd (strch ms f l) x) :
    ∃ N : Nat, 0 < N ∧ L ∣ N ∧ N ≤ 10 ^ 18 ∧ Cm N (10 ^ 12) x := by
  obtain ⟨S, hS⟩ : ∃ S, strch ms f l = S := ⟨_, rfl⟩
  rw [hS] at X
  have Sl : S.length = l + 1 - f := by rw [← hS]; exact str_len2 hl
  have Sm : ∀ m ∈ S, m ∈ ms := fun m h => by rw [← hS] at h; exact str_mem2 h
  have Sne : S ≠ [] := fun e => by rw [e, List.length_nil] at Sl; omega
  have n12 := M.n12
  have wp := wsum_pos Sne fun m h => (M.hw m (Sm m h)).1
  have wl : wsum S ≤ 12 * 10 ^ 9 := by
    have h1 := wsum_le (W := 10 ^ 9) fun m h => (M.hw m (Sm m h)).2
    have h2 : (S.length : Int) * 10 ^ 9 ≤ 12 * 10 ^ 9 := Int.mul_le_mul_of_nonneg_right (by omega) (by decide +kernel)
    omega
  have cx := level_cm hk X Sne (fun m h => M.hc m (Sm m h)) fun m h => (M.hw m (Sm m h)).1
  refine ⟨2 * L * (wsum S).toNat, Nat.mul_pos (by have := M.L0; omega) (by omega), ⟨2 * (wsum S).toNat, by rw [Nat.mul_comm 2 L, Nat.mul_assoc]⟩, ?_, cx⟩
  exact Nat.le_trans (Nat.mul_le_mul (Nat.mul_le_mul_left 2 M.L1) (show (wsum S).toNat ≤ 12 * 10 ^ 9 by omega)) (by decide +kernel)
theorem MkS.cost {L : Nat} {ms : List Mk} {kd : Str} {f l : Nat} (M : MkS L ms) (hk : kd ∈ kdsL) (hfl : f ≤ l) (hl : l < ms.length) : Dg 75 (cF kd (strch ms f l)) := by
  by_cases hx : ∃ x, LevelOk kd (strch ms f l) x
  · obtain ⟨x, X⟩ := hx
    obtain ⟨N, N0, dN, N1, cx⟩ := M.lev hk hfl hl X
    have Sl := str_len2 (f := f) hl
    have n12 := M.n12
    rw [← cF_is hk X (fun e => by rw [e] at Sl; simp at Sl; omega) fun m h => (M.hw m (str_mem2 h)).1]
    refine (MSz.measDg (L := N) (B := 10 ^ 12) (W := 10 ^ 9) (l := 18) (b := 12) (wd := 9) ⟨by omega, N0, N1, Nat.le_refl _, Nat.le_refl _, fun m h => (M.hc m (str_mem2 h)).mono dN (Nat.le_refl _), fun q hq => ?_, fun m h => ?_, by decide⟩ kd).mono (by decide)
    · rw [List.eq_of_mem_replicate hq]; exact cx
    · have := M.hw m (str_mem2 h); omega
  · unfold cF
    rw [dif_neg hx]
    exact dg0 _
theorem Laid.dg {L : Nat} {ms : List Mk} {kd : Str} (M : MkS L ms) (hk : kd ∈ kdsL) {j i : Nat} {r : List Rat} (Ld : Laid kd ms j i r) (hi : i < ms.length) : ∀ q ∈ r, Dg 31 q := by
  induction Ld with
  | @base j i x h0 hL =>
    intro q hq
    obtain ⟨N, N0, dN, N1, cx⟩ := M.lev hk (by omega) hi hL
    rw [List.eq_of_mem_replicate hq]
    exact (cx.dg N0 N1 (Nat.le_refl _)).mono (by decide)
  | @step j i h x r h0 hh hr hL ih =>
    intro q hq
    rcases List.mem_append.mp hq with z | z
    · exact ih (by omega) q z
    · obtain ⟨N, N0, dN, N1, cx⟩ := M.lev hk (by omega) hi hL
      rw [List.eq_of_mem_replicate z]
      exact (cx.dg N0 N1 (Nat.le_refl _)).mono (by decide)
theorem zw_mem {α β γ : Type} {f : α → β → γ} : ∀ {as : List α} {bs : List β} {c : γ}, c ∈ List.zipWith f as bs → ∃ a ∈ as, ∃ b ∈ bs, c = f a b
  | [], _, _, h => by simp at h
  | _ :: _, [], _, h => by simp at h
  | a :: as, b :: bs, c, h => by
    rw [List.zipWith_cons_cons] at h
    rcases List.mem_cons.mp h with h | h
    · exact ⟨a, List.mem_cons_self, b, List.mem_cons_self, h⟩
    · obtain ⟨a', ha, b', hb, e⟩ := zw_mem h
      exact ⟨a', List.mem_cons_of_mem _ ha, b', List.mem_cons_of_mem _ hb, e⟩
theorem mks_of {ms : List Mk} {hs ws : List Int} {b : Int} (e : ms.map (·.2) = List.zipWith (fun h v => (Rat.divInt h b, v)) hs ws) (hl : ws.length = hs.length) (n1 : 1 ≤ hs.length) (n8 : hs.length ≤ 12) (hh : ∀ h ∈ hs, h.natAbs ≤ 10 ^ 12) (hw : ∀ v ∈ ws, 1 ≤ v ∧ v ≤ 10 ^ 9) (b1 : 1 ≤ b) (b2 : b ≤ 10 ^ 6) : MkS b.toNat ms ∧ ms.length = hs.length := by
  have el : ms.length = hs.length := by
    have := congrArg List.length e
    rw [List.length_map, List.length_zipWith] at this
    omega
  have get : ∀ m ∈ ms, ∃ h ∈ hs, ∃ v ∈ ws, m.2 = (Rat.divInt h b, v) := fun m hm => by
    have : m.2 ∈ ms.map (·.2) := List.mem_map.mpr ⟨m, hm, rfl⟩
    rw [e] at this
    exact zw_mem this
  refine ⟨⟨by omega, by omega, by omega, by omega, fun m hm => ?_, fun m hm => ?_⟩, el⟩
  · obtain ⟨h, h1, v, v1, e1⟩ := get m hm
    have e2 : m.2.1 = Rat.divInt h b := by rw [e1]
    rw [e2]
    have := Cm.div (t := h) (b := b.toNat) (L := b.toNat) (B := 10 ^ 12) (by omega) (Nat.dvd_refl _) (Nat.le_trans (hh h h1) (Nat.le_mul_of_pos_right _ (by omega)))
    rw [show ((b.toNat : Nat) : Int) = b by omega] at this
    exact this
  · obtain ⟨h, h1, v, v1, e1⟩ := get m hm
    have e2 : m.2.2 = v := by rw [e1]
    rw [e2]
    exact hw v v1
section
variable {P : Program} {w : World} {K : PySem.W.Frag} {mg : Str → Option Value} {base : Heap} {A : Adr}
structure DueOk (kd : Str) (hs ws : List Int) (b : Int) (q : Rat) : Prop where
  far : kd = "far" → ∃ a c, a ∈ hs ∧ (∀ h ∈ hs, h ≤ a) ∧ c ∈ hs ∧ (∀ h ∈ hs, c ≤ h) ∧ q = Rat.divInt (a - c) (2 * b)
  sum : kd = "sum" → ∃ c, c ∈ hs ∧ (∀ d ∈ hs, smZ hs ws c ≤ smZ hs ws d) ∧ q = Rat.divInt (smZ hs ws c) b
  sq : kd = "square" → q = Rat.divInt (ws.sum * f2Z hs ws - f1Z hs ws * f1Z hs ws) (ws.sum * b * b)
noncomputable def wDue : DW := fun ds Q _ => ∃ (kd : Str) (hs ws : List Int) (b : Int), ds = [.str kd, .list (hs.map .int), .list (ws.map .int), .int b] ∧ kd ∈ kdsL ∧ hs ≠ [] ∧ hs.length ≤ 12 ∧ ws.length = hs.length ∧ (∀ h ∈ hs, -10 ^ 12 ≤ h ∧ h ≤ 10 ^ 12) ∧ (∀ v ∈ ws, 1 ≤ v ∧ v ≤ 10 ^ 9) ∧ 1 ≤ b ∧ b ≤ 10 ^ 6 ∧ ∀ q, DueOk kd hs ws b q → Q (.dat (fr q))
theorem sum_bd {lo hi : Int} : ∀ {xs : List Int}, (∀ x ∈ xs, lo ≤ x ∧ x ≤ hi) → lo * xs.length ≤ xs.sum ∧ xs.sum ≤ hi * xs.length
  | [], _ => by simp
  | x :: xs, h => by
    have h1 := h x List.mem_cons_self
    have h2 := sum_bd (xs := xs) fun y hy => h y (List.mem_cons_of_mem _ hy)
    rw [List.sum_cons, List.length_cons, Int.natCast_add, Int.mul_add, Int.mul_add]
    simp only [Int.natCast_one, Int.mul_one]
    omega
theorem sum_abs {B : Nat} : ∀ {xs : List Int}, (∀ x ∈ xs, x.natAbs ≤ B) → xs.sum.natAbs ≤ xs.length * B
  | [], _ => by simp
  | x :: xs, h => by
    have h1 := h x List.mem_cons_self
    have h2 := sum_abs (xs := xs) fun y hy => h y (List.mem_cons_of_mem _ hy)
    have h3 := Int.natAbs_add_le x xs.sum
    rw [List.sum_cons, List.length_cons, Nat.succ_mul]
    omega
theorem ok_law_cost (T : Txt K mg A) : FnOk P w K mg base (CXE P w) 2 A.a_law_cost A.d_law_cost ["kind", "heights", "weights", "bottom"] (spW K wDue) := by
  have G_law_lowest := ok_law_lowest (P := P) (w := w) (base := base) T
  refine okW T.F_law_cost sc_law_cost (fun ds Q E h => ?_) (fun cdv Ar outer s H E hr => ?_)
  · obtain ⟨_, _, _, _, rfl, _⟩ := h; rfl
  refine ⟨_, (pss_cons (ps_if (pt_cmpR op_eq (pv 0) pe_str (nomark _)) (pss_one (ps_ret (pe_call G_law_lowest (hr.mono (by decide)) rfl T.m_law_lowest T.F_law_lowest.kp T.b_law_lowest .nil passE0 (pa_cons (pe_op op_sub (pe_callB (max1K (K := K) rfl rfl) rfl T.n_max bt_max (pa_cons (pv 1) pa_nil)) (pe_callB (min1K (K := K) rfl rfl) rfl T.n_min bt_min (pa_cons (pv 1) pa_nil))) (pa_cons (pe_op op_mulB pe_int (pv 3)) pa_nil))))) pss_nil)
      (pss_cons (ps_set (i := 4) sc_law_cost.nd rfl (Or.inr rfl) (pe_listzip (K := K) rfl rfl rfl T.n_list rfl T.n_zip (pa_cons (pv 1) (pa_cons (pv 2) pa_nil))))
      (pss_cons (ps_if (pt_cmpR op_eq (pv 0) pe_str (nomark _)) (pss_one (ps_ret (pe_call G_law_lowest (hr.mono (by decide)) rfl T.m_law_lowest T.F_law_lowest.kp T.b_law_lowest .nil passE0 (pa_cons (pe_callB (min1K (K := K) rfl rfl) rfl T.n_min bt_min (pa_cons (pe_lc1 (x0 := "b") (cap := [none, some 4]) (NC := ["b", "some"]) rfl ⟨rfl, rfl, fun _ => rfl, fun _ => rfl, rfl, by decide +kernel, ⟨⟨_, rfl, rfl, rfl, rfl, rfl⟩, trivial⟩, (List.forall_mem_cons.2 ⟨rfl, (fun _ h => nomatch h)⟩), fun _ => rfl⟩ (pilK (K := K) rfl (pv 1)) (fun _ _ _ _ _ => (pg_name (i := 0) (show List.Nodup (["b", "some"] : List Str) by decide) rfl (Or.inr rfl))) (fun _ _ _ _ _ => pts_nil) (fun _ _ _ _ _ => (pe_callB (sumK (K := K) rfl rfl) rfl T.n_sum bt_sum (pa_cons (pe_lc (cap := [none, none, some 0]) (NC := ["a", "w", "b"]) rfl ⟨rfl, rfl, by decide +kernel, by decide +kernel, ⟨⟨_, rfl, rfl, rfl, rfl, rfl⟩, trivial⟩, (List.forall_mem_cons.2 ⟨rfl, (fun _ h => nomatch h)⟩), rfl⟩ (pilK (K := K) rfl (pv 1)) (fun _ _ _ _ => (pgtK (K := K) (n := 2) rfl rfl (pgs_cons (pg_name (i := 0) (show List.Nodup (["a", "w", "b"] : List Str) by decide) rfl (Or.inl rfl)) (pgs_cons (pg_name (i := 1) (show List.Nodup (["a", "w", "b"] : List Str) by decide) rfl (Or.inl rfl)) pgs_nil)))) (fun _ _ _ _ => pts_nil) (fun _ _ _ _ => (pe_op op_mulB (pv 1) (pe_callB call_abs rfl T.n_abs bt_abs (pa_cons (pe_op op_sub (pv 0) (pv 2)) pa_nil))))) pa_nil)))) pa_nil)) (pa_cons (pv 3) pa_nil))))) pss_nil)
      (pss_cons (ps_set (i := 5) sc_law_cost.nd rfl (Or.inl rfl) (pe_callB (sumK (K := K) rfl rfl) rfl T.n_sum bt_sum (pa_cons (pv 2) pa_nil)))
      (pss_cons (ps_set (i := 6) sc_law_cost.nd rfl (Or.inl rfl) (pe_callB (sumK (K := K) rfl rfl) rfl T.n_sum bt_sum (pa_cons (pe_lc (cap := [none, none]) (NC := ["a", "w"]) rfl ⟨rfl, rfl, by decide +kernel, by decide +kernel, trivial, (fun _ h => nomatch h), rfl⟩ (pilK (K := K) rfl (pv 4)) (fun _ _ _ _ => (pgtK (K := K) (n := 2) rfl rfl (pgs_cons (pg_name (i := 0) (show List.Nodup (["a", "w"] : List Str) by decide) rfl (Or.inl rfl)) (pgs_cons (pg_name (i := 1) (show List.Nodup (["a", "w"] : List Str) by decide) rfl (Or.inl rfl)) pgs_nil)))) (fun _ _ _ _ => pts_nil) (fun _ _ _ _ => (pe_op op_mulB (pv 1) (pv 0)))) pa_nil)))
      (pss_one (ps_ret (pe_call G_law_lowest (hr.mono (by decide)) rfl T.m_law_lowest T.F_law_lowest.kp T.b_law_lowest .nil passE0 (pa_cons (pe_op op_sub (pe_op op_mulB (pv 5) (pe_callB (sumK (K := K) rfl rfl) rfl T.n_sum bt_sum (pa_cons (pe_lc (cap := [none, none]) (NC := ["a", "w"]) rfl ⟨rfl, rfl, by decide +kernel, by decide +kernel, trivial, (fun _ h => nomatch h), rfl⟩ (pilK (K := K) rfl (pv 4)) (fun _ _ _ _ => (pgtK (K := K) (n := 2) rfl rfl (pgs_cons (pg_name (i := 0) (show List.Nodup (["a", "w"] : List Str) by decide) rfl (Or.inl rfl)) (pgs_cons (pg_name (i := 1) (show List.Nodup (["a", "w"] : List Str) by decide) rfl (Or.inl rfl)) pgs_nil)))) (fun _ _ _ _ => pts_nil) (fun _ _ _ _ => (pe_op op_mulB (pe_op op_mulB (pv 1) (pv 0)) (pv 0)))) pa_nil))) (pe_op op_mulB (pv 6) (pv 6))) (pa_cons (pe_op op_mulB (pe_op op_mulB (pv 5) (pv 3)) (pv 3)) pa_nil)))))))))), _, (sv_seq (sv_if (tv_test (bv_ev (ev_op ro_eq (bv_var 0) (bv_ev ev_str)))) (sv_ret (bv_ev (ev_call0 (av_cons (bv_ev (ev_op ro_i0 (bv_ev (ev_cb rb_max1 (av_cons (bv_var 1) av_nil))) (bv_ev (ev_cb rb_min1 (av_cons (bv_var 1) av_nil))))) (av_cons (bv_ev (ev_op ro_i (bv_ev ev_int) (bv_var 3))) av_nil))))) sv_next)
      (sv_seq (sv_setO 4 (ov_listzip (lv_var 1) (lv_var 2)))
      (sv_seq (sv_if (tv_test (bv_ev (ev_op ro_eq (bv_var 0) (bv_ev ev_str)))) (sv_ret (bv_ev (ev_call0 (av_cons (bv_ev (ev_cb rb_min1 (av_cons (bv_ev (ev_ov (ov_lc (ie_list (lv_var 1)) (gv_name 0) tv_yes (ev_cb rb_sum (av_cons (bv_ev (ev_ov (ov_lc (ie_list (lv_var 1)) (gv_tup (gs_cons (gv_name 0) (gs_cons (gv_name 1) gs_nil))) tv_yes (ev_op ro_i (bv_var 1) (bv_ev (ev_cb rb_abs (av_cons (bv_ev (ev_op ro_i0 (bv_var 0) (bv_var 2))) av_nil)))) (by decide) (by decide)))) av_nil)) (by decide) (by decide)))) av_nil))) (av_cons (bv_var 3) av_nil))))) sv_next)
      (sv_seq (sv_asg (ev_cb rb_sum (av_cons (bv_var 2) av_nil)) (gv_name 5))
      (sv_seq (sv_asg (ev_cb rb_sum (av_cons (bv_ev (ev_ov (ov_lc (ie_list (lv_var 4)) (gv_tup (gs_cons (gv_name 0) (gs_cons (gv_name 1) gs_nil))) tv_yes (ev_op ro_i (bv_var 1) (bv_var 0)) (by decide) (by decide)))) av_nil)) (gv_name 6))
      (sv_ret (bv_ev (ev_call0 (av_cons (bv_ev (ev_op ro_i0 (bv_ev (ev_op ro_i (bv_var 5) (bv_ev (ev_cb rb_sum (av_cons (bv_ev (ev_ov (ov_lc (ie_list (lv_var 4)) (gv_tup (gs_cons (gv_name 0) (gs_cons (gv_name 1) gs_nil))) tv_yes (ev_op ro_i (bv_ev (ev_op ro_i (bv_var 1) (bv_var 0))) (bv_var 0)) (by decide) (by decide)))) av_nil))))) (bv_ev (ev_op ro_i (bv_var 6) (bv_var 6))))) (av_cons (bv_ev (ev_op ro_i (bv_ev (ev_op ro_i (bv_var 5) (bv_var 3))) (bv_var 3))) av_nil)))))))))), ?_⟩
  rintro ds Q X ⟨kd, hs, ws, b, rfl, hkd, hne, h12, wl, hh, hw, b1, b2, k⟩
  have wb : Wee b := weeLe (n := 10 ^ 6) (by omega) (by decide +kernel)
  walk_at "s"
  refine ite2 (fun c => ?_) (fun c => ?_)
  · have ek : kd = "far" := c
    subst ek
    walk_at "d"
    refine ⟨hs, rfl, hne, fun a ha ha1 => ?_⟩
    refine ⟨hs, rfl, hne, fun d hd hd1 => ?_⟩
    refine ⟨mulOk (wee (by decide +kernel)) wb, a - d, 2 * b, rfl, by omega, weeLe (n := 2 * 10 ^ 6) (by omega) (by decide +kernel), ?_⟩
    walk_at "d"
    exact k _ ⟨fun _ => ⟨a, d, ha, ha1, hd, hd1, rfl⟩, fun h => absurd h (by decide), fun h => absurd h (by decide)⟩
  have nk : kd ≠ "far" := c
  walk_at "s"
  rw [pairD_map]
  obtain ⟨zs, hzs⟩ : ∃ zs, hs.zip ws = zs := ⟨_, rfl⟩
  rw [hzs]
  have zl : zs.length = hs.length := by rw [← hzs, List.length_zip]; omega
  have zb : ∀ z ∈ zs, (-10 ^ 12 ≤ z.1 ∧ z.1 ≤ 10 ^ 12) ∧ 1 ≤ z.2 ∧ z.2 ≤ 10 ^ 9 := fun z hz => by
    rw [← hzs] at hz
    exact zip_all hh hw z hz
  have ez : ∀ f : Int → Int → Int, zs.map (fun z => f z.1 z.2) = List.zipWith f hs ws := fun f => by rw [← hzs, zip_map]
  walk_at "s"
  refine ite2 (fun c => ?_) (fun c => ?_)
  · have ek : kd = "sum" := c
    subst ek
    walk_at "d"
    refine lc_map PyData.int PyData.int (fun c : Int => [smZ hs ws c]) hs (by omega) (fun Q h => h) (fun c hc N acc hN => ?_) ?_
    · walk_at "d"
      refine lc_map (fun z : Int × Int => PyData.tuple [.int z.1, .int z.2]) PyData.int (fun z : Int × Int => [z.2 * (if z.1 - c < 0 then -(z.1 - c) else z.1 - c)]) zs (by omega) (fun Q h => h) (fun z hz N acc hN => ?_) ?_
      · have hb := zb z hz
        have hc2 := hh c hc
        walk_at "d"
        exact ⟨mulOk (weeLe (n := 10 ^ 9) (by omega) (by decide +kernel)) (weeLe (n := 2 * 10 ^ 12) (by split <;> omega) (by decide +kernel)), hN⟩
      · walk_at "d"
        exact ⟨List.zipWith (fun a v => v * (if a - c < 0 then -(a - c) else a - c)) hs ws, by rw [flat_single, ← ez], hN⟩
    walk_at "d"
    refine ⟨hs.map (smZ hs ws), by rw [flat_single], by simp [hne], fun m hm hmin => ?_⟩
    obtain ⟨c, hc, rfl⟩ := List.mem_map.mp hm
    refine ⟨_, b, rfl, b1, wb, ?_⟩
    walk_at "d"
    exact k _ ⟨fun h => absurd h (by decide), fun _ => ⟨c, hc, fun d hd => hmin _ (List.mem_map.mpr ⟨d, hd, rfl⟩), rfl⟩, fun h => absurd h (by decide)⟩
  have ek : kd = "square" := by
    have : kd = "far" ∨ kd = "sum" ∨ kd = "square" := by simpa [kdsL] using hkd
    rcases this with e | e | e
    · exact absurd e nk
    · exact absurd e c
    · exact e
  subst ek
  walk_at "s"
  refine ⟨ws, rfl, ?_⟩
  have T1 : 1 ≤ ws.sum ∧ ws.sum ≤ 12 * 10 ^ 9 := by
    have h1 := sum_bd (lo := 1) (hi := 10 ^ 9) hw
    have h2 := List.length_pos_iff.mpr hne
    omega
  have zabs : ∀ z ∈ zs, z.1.natAbs ≤ 10 ^ 12 ∧ z.2.natAbs ≤ 10 ^ 9 := fun z hz => by have := zb z hz; omega
  have F1 : (f1Z hs ws).natAbs ≤ 12 * (10 ^ 9 * 10 ^ 12) := by
    unfold f1Z
    rw [← ez fun a v => v * a]
    have h := sum_abs (B := 10 ^ 9 * 10 ^ 12) (xs := zs.map fun z => z.2 * z.1) fun x hx => by
      obtain ⟨z, hz, rfl⟩ := List.mem_map.mp hx
      have := zabs z hz
      rw [Int.natAbs_mul]
      exact Nat.mul_le_mul this.2 this.1
    refine Nat.le_trans h (Nat.mul_le_mul_right _ ?_)
    rw [List.length_map]; omega
  have F2 : (f2Z hs ws).natAbs ≤ 12 * (10 ^ 9 * 10 ^ 12 * 10 ^ 12) := by
    unfold f2Z
    rw [← ez fun a v => v * a * a]
    have h := sum_abs (B := 10 ^ 9 * 10 ^ 12 * 10 ^ 12) (xs := zs.map fun z => z.2 * z.1 * z.1) fun x hx => by
      obtain ⟨z, hz, rfl⟩ := List.mem_map.mp hx
      have := zabs z hz
      rw [Int.natAbs_mul, Int.natAbs_mul]
      exact Nat.mul_le_mul (Nat.mul_le_mul this.2 this.1) this.1
    refine Nat.le_trans h (Nat.mul_le_mul_right _ ?_)
    rw [List.length_map]; omega
  have k2 := k _ ⟨fun h => absurd h (by decide), fun h => absurd h (by decide), fun _ => rfl⟩
  walk_at "s"
  refine lc_map (fun z : Int × Int => PyData.tuple [.int z.1, .int z.2]) PyData.int (fun z : Int × Int => [z.2 * z.1]) zs (by omega) (fun Q h => h) (fun z hz N acc hN => ?_) ?_
  · have hb := zabs z hz
    walk_at "d"
    exact ⟨mulOk (weeLe hb.2 (by decide +kernel)) (weeLe hb.1 (by decide +kernel)), hN⟩
  walk_at "d"
  refine ⟨List.zipWith (fun a v => v * a) hs ws, by rw [flat_single, ← ez fun a v => v * a], ?_⟩
  walk_at "d"
  refine lc_map (fun z : Int × Int => PyData.tuple [.int z.1, .int z.2]) PyData.int (fun z : Int × Int => [z.2 * z.1 * z.1]) zs (by omega) (fun Q h => h) (fun z hz N acc hN => ?_) ?_
  · have hb := zabs z hz
    have hp : (z.2 * z.1).natAbs ≤ 10 ^ 9 * 10 ^ 12 := by rw [Int.natAbs_mul]; exact Nat.mul_le_mul hb.2 hb.1
    walk_at "d"
    exact ⟨mulOk (weeLe hb.2 (by decide +kernel)) (weeLe hb.1 (by decide +kernel)), mulOk (weeLe hp (by decide +kernel)) (weeLe hb.1 (by decide +kernel)), hN⟩
  walk_at "d"
  refine ⟨List.zipWith (fun a v => v * a * a) hs ws, by rw [flat_single, ← ez fun a v => v * a * a], ?_⟩
  change (f2Z hs ws).natAbs ≤ _ at F2
  have eF1 : (List.zipWith (fun a v => v * a) hs ws).sum = f1Z hs ws := rfl
  have eF2 : (List.zipWith (fun a v => v * a * a) hs ws).sum = f2Z hs ws := rfl
  rw [eF1, eF2]
  clear eF1 eF2 ez
  generalize f1Z hs ws = f1 at *
  generalize f2Z hs ws = f2 at *
  generalize ws.sum = tt at *
  have tb : (tt * b).natAbs ≤ 12 * 10 ^ 9 * 10 ^ 6 := by rw [Int.natAbs_mul]; exact Nat.mul_le_mul (by omega) (by omega)
  have tbb : (tt * b * b).natAbs ≤ 12 * 10 ^ 9 * 10 ^ 6 * 10 ^ 6 := by rw [Int.natAbs_mul]; exact Nat.mul_le_mul tb (by omega)
  have p1 : 0 < tt * b := Int.mul_pos (by omega) (by omega)
  have p2 : 0 < tt * b * b := Int.mul_pos p1 (by omega)
  refine ⟨mulOk (weeLe (n := 12 * 10 ^ 9) (by omega) (by decide +kernel)) (weeLe F2 (by decide +kernel)), mulOk (weeLe F1 (by decide +kernel)) (weeLe F1 (by decide +kernel)), mulOk (weeLe (n := 12 * 10 ^ 9) (by omega) (by decide +kernel)) wb, mulOk (weeLe tb (by decide +kernel)) wb, _, _, rfl, by omega, weeLe tbb (by decide +kernel), ?_⟩
  walk_at "d"
  exact k2
end
theorem due_is {kd : Str} {S : List Mk} {b : Int} {hs ws : List Int} {x q : Rat} (hk : kd ∈ kdsL) (e : S.map (·.2) = hwZip b hs ws) (hl : ws.length = hs.length) (hb : 1 ≤ b) (hS : S ≠ []) (hw : ∀ m ∈ S, 1 ≤ m.2.2) (X : LevelOk kd S x) (D : DueOk kd hs ws b q) :
    meas kd S (List.replicate S.length x) = q := by
  have hk3 : kd = "far" ∨ kd = "sum" ∨ kd = "square" := by simpa [kdsL] using hk
  rcases hk3 with rfl | rfl | rfl
  · obtain ⟨a, c, a1, a2, c1, c2, rfl⟩ := D.far rfl
    obtain ⟨p, r, p1, p2, r1, r2, ex⟩ := X.far rfl
    unfold meas
    rw [if_pos rfl]
    exact due_far e hl hb p1 p2 r1 r2 ex a1 a2 c1 c2
  · obtain ⟨c, c1, c2, rfl⟩ := D.sum rfl
    unfold meas
    rw [if_neg (by decide), if_pos rfl]
    exact due_sum e hl hb hw (X.sum rfl) c1 c2
  · rw [D.sq rfl]
    unfold meas
    rw [if_neg (by decide), if_neg (by decide)]
    exact due_sq e hl hb hS hw (X.sq rfl)
theorem ints_flat : ∀ xs : List Int, flatDs (xs.map PyData.int) = true
  | [] => rfl
  | x :: xs => by
    have := ints_flat xs
    simp only [List.map_cons, flatDs, flatD, this, Bool.and_self]
noncomputable def strI (xs : List Int) (f l : Nat) : List Int := (xs.take (l + 1)).drop f
theorem cut_str {xs : List Int} {f l : Nat} (hfl : f ≤ l) (hl : l < xs.length) : cutL (xs.map PyData.int) (some (f : Int)) (some ((l : Int) + 1)) = (strI xs f l).map PyData.int := by
  rw [cutL_map]
  unfold cutL strI
  rw [show (l : Int) + 1 = ((l + 1 : Nat) : Int) by omega, HT.sIx_nat, HT.sIx_nat, List.drop_take, Nat.min_eq_left (by omega), Nat.min_eq_left (by omega)]
theorem strI_len {xs : List Int} {f l : Nat} (hl : l < xs.length) : (strI xs f l).length = l + 1 - f := by unfold strI; rw [List.length_drop, List.length_take]; omega
theorem strI_mem {xs : List Int} {f l : Nat} {v : Int} (h : v ∈ strI xs f l) : v ∈ xs := List.mem_of_mem_take (List.mem_of_mem_drop h)
theorem str_hw {ms : List Mk} {b : Int} {hs ws : List Int} (e : ms.map (·.2) = List.zipWith (fun h v => (Rat.divInt h b, v)) hs ws) (f l : Nat) : (strch ms f l).map (·.2) = hwZip b (strI hs f l) (strI ws f l) := by
  unfold strch strI hwZip
  rw [List.map_drop, List.map_take, e, List.take_zipWith, List.drop_zipWith]
theorem max_ex (p : Rat → Prop) : ∀ (xs : List Rat), (∃ x ∈ xs, p x) → ∃ x ∈ xs, p x ∧ ∀ y ∈ xs, p y → y ≤ x
  | [], h => by obtain ⟨x, hx, _⟩ := h; cases hx
  | z :: xs, h => by
    by_cases hz : p z
    · by_cases hr : ∃ x ∈ xs, p x
      · obtain ⟨x, hx, px, hm⟩ := max_ex p xs hr
        by_cases hc : x ≤ z
        · refine ⟨z, List.mem_cons_self, hz, fun y hy py => ?_⟩
          rcases List.mem_cons.mp hy with rfl | hy
          · exact Rat.le_refl
          · exact Rat.le_trans (hm y hy py) hc
        · refine ⟨x, List.mem_cons_of_mem _ hx, px, fun y hy py => ?_⟩
          rcases List.mem_cons.mp hy with rfl | hy
          · exact Rat.le_of_lt (Rat.not_le.mp hc)
          · exact hm y hy py
      · refine ⟨z, List.mem_cons_self, hz, fun y hy py => ?_⟩
        rcases List.mem_cons.mp hy with rfl | hy
        · exact Rat.le_refl
        · exact absurd ⟨y, hy, py⟩ hr
    · have hr : ∃ x ∈ xs, p x := by
        obtain ⟨x, hx, px⟩ := h
        rcases List.mem_cons.mp hx with rfl | hx
        · exact absurd px hz
        · exact ⟨x, hx, px⟩
      obtain ⟨x, hx, px, hm⟩ := max_ex p xs hr
      refine ⟨x, List.mem_cons_of_mem _ hx, px, fun y hy py => ?_⟩
      rcases List.mem_cons.mp hy with rfl | hy
      · exact absurd py hz
      · exact hm y hy py
theorem min_ex (p : Rat → Prop) (xs : List Rat) (h : ∃ x ∈ xs, p x) : ∃ x ∈ xs, p x ∧ ∀ y ∈ xs, p y → x ≤ y := by
  obtain ⟨x, hx, px⟩ := h
  obtain ⟨y, hy, py, hm⟩ := max_ex (fun z => p (-z)) (xs.map fun z => -z) ⟨-x, List.mem_map.mpr ⟨x, hx, rfl⟩, by rw [Rat.neg_neg]; exact px⟩
  obtain ⟨y0, h0, rfl⟩ := List.mem_map.mp hy
  rw [Rat.neg_neg] at py
  refine ⟨y0, h0, py, fun z hz pz => ?_⟩
  have := hm (-z) (List.mem_map.mpr ⟨z, hz, rfl⟩) (by rw [Rat.neg_neg]; exact pz)
  grind
theorem fsum_congr {p q : Pr → Bool} {zs : List Pr} (h : ∀ z ∈ zs, p z = q z) : fsum p zs = fsum q zs := by
  unfold fsum
  rw [List.filter_congr h]
theorem mid_ex {zs : List Pr} (hne : zs ≠ []) (hw : ∀ z ∈ zs, 0 < z.2) : ∃ x, Mid zs x := by
  have nn : ∀ z ∈ zs, 0 ≤ z.2 := fun z hz => Rat.le_of_lt (hw z hz)
  have tp : 0 < tot (zs.map (·.2)) := by
    match zs, hne, hw, nn with
    | z :: r, _, hw, nn =>
      have h1 := hw z List.mem_cons_self
      have h2 : 0 ≤ tot (r.map (·.2)) := tot_nn fun q hq => by
        obtain ⟨y, hy, rfl⟩ := List.mem_map.mp hq
        exact nn y (List.mem_cons_of_mem _ hy)
      show 0 < z.2 + tot (r.map (·.2))
      grind
  obtain ⟨W, hW⟩ : ∃ W, tot (zs.map (·.2)) = W := ⟨_, rfl⟩
  rw [hW] at tp
  obtain ⟨g, hg, _, gm⟩ := max_ex (fun _ => True) (zs.map (·.1)) (by
    match zs, hne with
    | z :: r, _ => exact ⟨z.1, by simp, trivial⟩)
  obtain ⟨x, hx, px, xm⟩ := min_ex (fun x => W ≤ fsum (fun z => decide (z.1 ≤ x)) zs + fsum (fun z => decide (z.1 ≤ x)) zs) (zs.map (·.1)) ⟨g, hg, by
    rw [fsum_all fun z hz => by simpa using gm z.1 (List.mem_map.mpr ⟨z, hz, rfl⟩) trivial, hW]
    grind⟩
  obtain ⟨zx, hzx, ex⟩ := List.mem_map.mp hx
  refine ⟨x, ⟨zx, hzx, ex⟩, ?_, by rw [hW]; exact px⟩
  rw [hW]
  by_cases hl : ∃ y ∈ zs.map (·.1), y < x
  · obtain ⟨y, hy, yx, ym⟩ := max_ex (fun y => y < x) (zs.map (·.1)) hl
    have e : fsum (fun z => decide (z.1 < x)) zs = fsum (fun z => decide (z.1 ≤ y)) zs := fsum_congr fun z hz => by
      rw [decide_eq_decide]
      constructor
      · intro h; exact ym z.1 (List.mem_map.mpr ⟨z, hz, rfl⟩) h
      · intro h; grind
    rw [e]
    refine Rat.not_le.mp fun h => ?_
    have := xm y hy h
    grind
  · rw [fsum_none fun z hz h => hl ⟨z.1, List.mem_map.mpr ⟨z, hz, rfl⟩, by simpa using h⟩]
    grind
theorem lev_ex {kd : Str} {S : List Mk} (hS : S ≠ []) (hw : ∀ m ∈ S, 1 ≤ m.2.2) : ∃ x, LevelOk kd S x := by
  obtain ⟨m0, hm0⟩ : ∃ m, m ∈ S := List.exists_mem_of_ne_nil S hS
  have h0 : m0.2.1 ∈ hgts S := List.mem_map.mpr ⟨m0, hm0, rfl⟩
  obtain ⟨a, a1, _, a2⟩ := max_ex (fun _ => True) (hgts S) ⟨_, h0, trivial⟩
  obtain ⟨b, b1, _, b2⟩ := min_ex (fun _ => True) (hgts S) ⟨_, h0, trivial⟩
  have hmid : ∃ x, Mid ((hgts S).zip (wgts S)) x := by
    refine mid_ex (fun e => ?_) fun z hz => ?_
    · have := congrArg List.length e
      rw [List.length_zip, hgts, wgts, List.length_map, List.length_map, List.length_nil] at this
      have h1 := List.length_pos_of_mem hm0
      omega
    · have := (List.of_mem_zip (a := z.1) (b := z.2) hz).2
      obtain ⟨m, hm, e⟩ := List.mem_map.mp this
      rw [← e]
      have := hw m hm
      exact Rat.intCast_pos.mpr (by omega)
  obtain ⟨x, hx⟩ := hmid
  by_cases k1 : kd = "far"
  · exact ⟨half0 * (a + b), fun _ => ⟨a, b, a1, fun r hr => a2 r hr trivial, b1, fun r hr => b2 r hr trivial, rfl⟩, fun h => absurd (k1.symm.trans h) (by decide), fun h => absurd (k1.symm.trans h) (by decide)⟩
  · by_cases k2 : kd = "sum"
    · exact ⟨x, fun h => absurd h k1, fun _ => hx, fun h => absurd (k2.symm.trans h) (by decide)⟩
    · exact ⟨_, fun h => absurd h k1, fun h => absurd h k2, fun _ => rfl⟩
theorem due_cF {kd : Str} {ms : List Mk} {b : Int} {hs ws : List Int} {f l : Nat} {q : Rat} (hk : kd ∈ kdsL) (hm : ms.map (·.2) = List.zipWith (fun h v => (Rat.divInt h b, v)) hs ws) (hl : ws.length = hs.length) (hml : ms.length = hs.length) (hb : 1 ≤ b) (hw : ∀ m ∈ ms, 1 ≤ m.2.2) (hfl : f ≤ l) (hln : l < ms.length)
    (D : DueOk kd (strI hs f l) (strI ws f l) b q) : q = cF kd (strch ms f l) := by
  have Sl := str_len2 (f := f) hln
  have hS : strch ms f l ≠ [] := fun e => by rw [e, List.length_nil] at Sl; omega
  have hw2 : ∀ m ∈ strch ms f l, 1 ≤ m.2.2 := fun m h => hw m (str_mem2 h)
  obtain ⟨x, X⟩ := lev_ex (kd := kd) hS hw2
  have e1 := due_is hk (str_hw hm f l) (by rw [strI_len (by omega), strI_len (by omega)]) hb hS hw2 X D
  rw [← e1]
  exact cF_is hk X hS hw2
noncomputable def cntR : List Rat → Nat
  | a :: b :: r => (if b = a then 0 else 1) + cntR (b :: r)
  | _ => 0
theorem cntR_snoc (a b : Rat) : ∀ l : List Rat, cntR (l ++ [a, b]) = cntR (l ++ [a]) + (if b = a then 0 else 1)
  | [] => by simp [cntR]
  | [c] => by simp [cntR]
  | c :: d :: l => by
    have ih := cntR_snoc a b (d :: l)
    simp only [List.cons_append, cntR] at ih ⊢
    omega
theorem cntR_take {qs : List Rat} {i : Nat} (h : i + 1 < qs.length) : cntR (qs.take (i + 2)) = cntR (qs.take (i + 1)) + (if qs.getD (i + 1) 0 = qs.getD i 0 then 0 else 1) := by
  have h1 : qs[i]? = some (qs.getD i 0) := by rw [List.getElem?_eq_getElem (show i < qs.length by omega)]; simp [List.getD, show i < qs.length by omega]
  have h2 : qs[i + 1]? = some (qs.getD (i + 1) 0) := by rw [List.getElem?_eq_getElem h]; simp [List.getD, h]
  rw [take_snoc (i := i + 1) h2, take_snoc h1, List.append_assoc]
  exact cntR_snoc _ _ _
noncomputable def lowE (kd : Str) (cs ah : List Rat) (e : Rat) : Bool := !(decide (cs.getD 0 0 < e)) && (ah.zip (cs.drop 1)).all fun p => !(decide (joinR kd p.1 p.2 < e))
noncomputable def lowRow (kd : Str) (C : List (List Rat)) (ah row : List Rat) : Bool := (row.zip C).all fun p => lowE kd p.2 ah p.1
noncomputable def aheadOf (tbl : List (List Rat)) (j : Nat) : List Rat := if j = 0 then [] else tbl.getD (j - 1) []
noncomputable def lowTab (kd : Str) (C tbl : List (List Rat)) : Bool := (List.range tbl.length).all fun j => lowRow kd C (aheadOf tbl j) (tbl.getD j [])
noncomputable def costC (kd : Str) (ms : List Mk) : List (List Rat) := (List.range ms.length).map fun l => costL kd ms l
noncomputable def rowD (r : List Rat) : PyData := .list (r.map fr)
theorem all_false {α : Type} {p : α → Bool} {xs : List α} {x : α} (h : x ∈ xs) (hp : p x = false) : xs.all p = false := by
  rw [List.all_eq_false]
  exact ⟨x, h, by rw [hp]; decide⟩
theorem all_true {α : Type} {p : α → Bool} {xs : List α} (h : ∀ (i : Nat) (x : α), xs[i]? = some x → p x = true) : xs.all p = true := by
  rw [List.all_eq_true]
  intro x hx
  obtain ⟨i, hi⟩ := List.mem_iff_getElem?.mp hx
  exact h i x hi
theorem rows_at {tbl : List (List Rat)} {k : Int} {j : Nat} (e : k = (j : Int)) (h : j < tbl.length) : atI (tbl.map rowD) k = some (.list ((tbl.getD j []).map fr)) := by
  rw [atI_mk (xs := tbl) rowD (by omega) (by omega), e, Int.toNat_natCast]
  simp [rowD, List.getD_eq_getElem?_getD, h]
structure CsOk (C : List (List Rat)) : Prop where
  n8 : C.length ≤ 12
  len : ∀ i, i < C.length → (C.getD i []).length = i + 1
  dg : ∀ i, i < C.length → ∀ q ∈ C.getD i [], Dg 75 q
noncomputable def ahD : Option (List Rat) → PyData
  | none => .none
  | some a => .list (a.map fr)
noncomputable def ahL : Option (List Rat) → List Rat
  | none => []
  | some a => a
noncomputable def bndL (kd : Str) (cs ah : List Rat) : List Rat := cs.getD 0 0 :: (ah.zip (cs.drop 1)).map fun p => joinR kd p.1 p.2
theorem bnd_dg {kd : Str} {cs ah : List Rat} {D : Nat} (hc : ∀ q ∈ cs, Dg 75 q) (h0 : cs ≠ []) (ha : ∀ q ∈ ah, Dg D q) : ∀ q ∈ bndL kd cs ah, Dg (D + 76) q := fun q hq => by
  unfold bndL at hq
  rcases List.mem_cons.mp hq with rfl | hq
  · exact (hc _ (getD_mem2 (List.length_pos_iff.mpr h0))).mono (by omega)
  · obtain ⟨p, hp, rfl⟩ := List.mem_map.mp hq
    obtain ⟨h1, h2⟩ := List.of_mem_zip hp
    exact join_dg (ha _ h1) (hc _ (List.mem_of_mem_drop h2))
theorem lowE_bnd (kd : Str) (cs ah : List Rat) (e : Rat) : lowE kd cs ah e = (bndL kd cs ah).all fun b => !(decide (b < e)) := by
  unfold lowE bndL
  rw [List.all_cons, List.all_map]
  rfl
theorem zip_at {row : List Rat} {C : List (List Rat)} {i : Nat} (h1 : i < row.length) (h2 : i < C.length) : (row.zip C)[i]? = some (row.getD i 0, C.getD i []) := by
  rw [List.getElem?_zip_eq_some]
  exact ⟨by simp [List.getD, h1], by simp [List.getD, h2]⟩
theorem lowRow_true {kd : Str} {C : List (List Rat)} {ah row : List Rat} (hl : row.length = C.length) (h : ∀ i, i < C.length → lowE kd (C.getD i []) ah (row.getD i 0) = true) : lowRow kd C ah row = true :=
  all_true fun i p hp => by
    have hi := (List.getElem?_eq_some_iff.mp hp).1
    rw [List.length_zip] at hi
    rw [zip_at (by omega) (by omega)] at hp
    cases hp
    exact h i (by omega)
theorem lowRow_false {kd : Str} {C : List (List Rat)} {ah row : List Rat} {i : Nat} (hl : row.length = C.length) (hi : i < C.length) (h : lowE kd (C.getD i []) ah (row.getD i 0) = false) : lowRow kd C ah row = false :=
  all_false (List.mem_of_getElem? (zip_at (by omega) hi)) h
noncomputable def ahO (tbl : List (List Rat)) (j : Nat) : Option (List Rat) := if j = 0 then none else some (tbl.getD (j - 1) [])
theorem ahO_L (tbl : List (List Rat)) (j : Nat) : ahL (ahO tbl j) = aheadOf tbl j := by
  unfold ahO aheadOf
  split <;> rfl
section
variable {P : Program} {w : World} {K : PySem.W.Frag} {mg : Str → Option Value} {base : Heap} {A : Adr}
noncomputable def wLSteps : DW := fun ds Q _ => ∃ qs : List Rat, ds = [.list (qs.map fr)] ∧ 1 ≤ qs.length ∧ qs.length ≤ 60 ∧ Q (.dat (.int (cntR qs : Int)))
theorem ok_law_steps (T : Txt K mg A) : FnOk P w K mg base (CXE P w) 1 A.a_law_steps A.d_law_steps ["row"] (spW K wLSteps) := by
  refine okW T.F_law_steps sc_law_steps (fun ds Q E h => ?_) (fun cdv Ar outer s H E hr => ?_)
  · obtain ⟨_, rfl, _⟩ := h; rfl
  refine ⟨_, (pss_cons (ps_set (i := 1) sc_law_steps.nd rfl (Or.inl rfl) pe_int)
      (pss_cons (ps_for PassesOwn.leaving rfl (pi_range2 rfl T.n_range (pa_cons pe_int (pa_cons (pe_callB (lenK (K := K) rfl) rfl T.n_len PySem.boot_len (pa_cons (pv 0) pa_nil)) pa_nil))) (pg_name (i := 2) sc_law_steps.nd rfl (Or.inl rfl))
        (pss_one (ps_set (i := 1) sc_law_steps.nd rfl (Or.inl rfl) (pe_op op_add (pv 1) (pe_callTy call_int1 rfl T.n_int bt_int (pa_cons (pe_cmpR (neK (K := K) rfl hr.units) (pe_ix (ixlK (K := K) rfl) (pv 0) (pv 2) (fun _ _ => rfl)) (pe_ix (ixlK (K := K) rfl) (pv 0) (pe_op op_sub (pv 2) pe_int) (fun _ _ => rfl)) (nomark _)) pa_nil))))))
      (pss_one (ps_ret (pv 1))))), _, (sv_seq (sv_asg ev_int (gv_name 1))
      (sv_seq (sv_for (is_rng2 (av_cons (bv_ev ev_int) (av_cons (bv_ev (ev_cb rb_len (av_cons (bv_var 0) av_nil))) av_nil))) (gv_name 2)
        (sv_asg (ev_op ro_i0 (bv_var 1) (bv_ev (ev_cb rb_int (av_cons (bv_ev (ev_op ro_neD (bv_ev (ev_ixl (lv_var 0) (bv_var 2))) (bv_ev (ev_ixl (lv_var 0) (bv_ev (ev_op ro_i0 (bv_var 2) (bv_ev ev_int))))))) av_nil)))) (gv_name 1)))
      (sv_retV 1))), ?_⟩
  rintro ds Q X ⟨qs, rfl, h1, h60, k⟩
  walk_at "s"
  refine seq_mk (for_rng (lo := 1) (st := 1) (n := qs.length - 1) (fun Q h => by
      walk_at "d"
      have e : ((qs.length : Int) - 1).toNat = qs.length - 1 := by omega
      rw [e]
      exact ⟨by omega, h⟩)
    (fun i δ => ∃ s2 : Option Sl, δ = [some (.dat (.list (qs.map fr))), some (.dat (.int (cntR (qs.take (i + 1)) : Int))), s2]) ⟨none, ?_⟩ ?_ ?_)
  · have : cntR (qs.take (0 + 1)) = 0 := by
      match qs, h1 with
      | a :: r, _ => rfl
    rw [this]; rfl
  · rintro i δ hi ⟨s2, rfl⟩
    rw [show (1 : Int) + (i : Int) * 1 = ((i + 1 : Nat) : Int) by omega]
    have e := cntR_take (qs := qs) (i := i) (by omega)
    walk_at "d"
    refine ⟨_, atI_fr (j := i + 1) rfl (by omega), _, atI_fr (j := i) (by omega) (by omega), Rat, eRat, _, _, rfl, rfl, fun b hb => ?_⟩
    cases b with
    | true =>
      rw [if_pos (hb.mp rfl)] at e
      rw [show i + 1 + 1 = i + 2 from rfl, e]
      walk_at "d"
      exact ⟨_, rfl⟩
    | false =>
      rw [if_neg (fun z => absurd (hb.mpr z) (by decide))] at e
      rw [show i + 1 + 1 = i + 2 from rfl, e]
      walk_at "d"
      exact ⟨_, rfl⟩
  · rintro δ ⟨s2, rfl⟩
    walk_at "d"
    rw [List.take_of_length_le (by omega)]
    exact k
noncomputable def wLowT : DW := fun ds Q _ => ∃ (kd : Str) (C tbl : List (List Rat)) (D : Nat), ds = [.str kd, .list (C.map rowD), .list (tbl.map rowD)] ∧ CsOk C ∧ (∀ r ∈ tbl, r.length = C.length ∧ ∀ q ∈ r, Dg D q) ∧ D ≤ 1100 ∧ Q (.dat (.bool (lowTab kd C tbl)))
theorem ok_law_is_low (T : Txt K mg A) : FnOk P w K mg base (CXE P w) 3 A.a_law_is_low A.d_law_is_low ["kind", "costs", "table"] (spW K wLowT) := by
  have G_law_joined := ok_law_joined (P := P) (w := w) (base := base) T
  have G_law_less := ok_law_less (P := P) (w := w) (base := base) T
  refine okW T.F_law_is_low sc_law_is_low (fun ds Q E h => ?_) (fun cdv Ar outer s H E hr => ?_)
  · obtain ⟨_, _, _, _, rfl, _⟩ := h; rfl
  refine ⟨_, (pss_cons (ps_set (i := 3) sc_law_is_low.nd rfl (Or.inr rfl) pe_non)
      (pss_cons (ps_for PassesOwn.leaving rfl (pilK (K := K) rfl (pv 2)) (pg_name (i := 4) sc_law_is_low.nd rfl (Or.inl rfl))
        (pss_cons (ps_for PassesOwn.leaving rfl (pi_range1 rfl T.n_range (pa_cons (pe_callB (lenK (K := K) rfl) rfl T.n_len PySem.boot_len (pa_cons (pv 1) pa_nil)) pa_nil)) (pg_name (i := 5) sc_law_is_low.nd rfl (Or.inr rfl))
        (pss_cons (ps_set (i := 6) sc_law_is_low.nd rfl (Or.inl rfl) (pe_lst (pa_cons (pe_ix (ixlK (K := K) rfl) (pe_ix (ixlK (K := K) rfl) (pv 1) (pv 5) (fun _ _ => rfl)) pe_int (fun _ _ => rfl)) pa_nil)))
      (pss_cons (ps_if (pt_cmpR op_notN (pv 3) pe_non (nomark _)) (pss_one (ps_set (i := 6) sc_law_is_low.nd rfl (Or.inl rfl) (pe_op op_cat (pv 6) (pe_lc (cap := [none, some 0, some 3, some 1, some 5]) (NC := ["h", "kind", "ahead", "costs", "i"]) rfl ⟨rfl, rfl, by decide +kernel, by decide +kernel, ⟨⟨_, rfl, rfl, rfl, rfl, rfl⟩, ⟨⟨_, rfl, rfl, rfl, rfl, rfl⟩, ⟨⟨_, rfl, rfl, rfl, rfl, rfl⟩, ⟨⟨_, rfl, rfl, rfl, rfl, rfl⟩, trivial⟩⟩⟩⟩, (List.forall_mem_cons.2 ⟨rfl, (List.forall_mem_cons.2 ⟨rfl, (List.forall_mem_cons.2 ⟨rfl, (List.forall_mem_cons.2 ⟨rfl, (fun _ h => nomatch h)⟩)⟩)⟩)⟩), rfl⟩ (pi_range2 rfl T.n_range (pa_cons pe_int (pa_cons (pe_op op_add (pv 5) pe_int) pa_nil))) (fun _ _ _ _ => (pg_name (i := 0) (show List.Nodup (["h", "kind", "ahead", "costs", "i"] : List Str) by decide) rfl (Or.inl rfl))) (fun _ _ _ _ => pts_nil) (fun _ _ _ _ => (pe_call G_law_joined (hr.mono (by decide)) rfl T.m_law_joined T.F_law_joined.kp T.b_law_joined .nil passE0 (pa_cons (pv 1) (pa_cons (pe_ix (ixlK (K := K) rfl) (pv 2) (pe_op op_sub (pv 0) pe_int) (fun _ _ => rfl)) (pa_cons (pe_ix (ixlK (K := K) rfl) (pe_ix (ixlK (K := K) rfl) (pv 3) (pv 4) (fun _ _ => rfl)) (pv 0) (fun _ _ => rfl)) pa_nil))))))))) pss_nil)
      (pss_one (ps_for PassesOwn.leaving rfl (pilK (K := K) rfl (pv 6)) (pg_name (i := 7) sc_law_is_low.nd rfl (Or.inl rfl))
        (pss_one (ps_if (pt_val (pe_call G_law_less (hr.mono (by decide)) rfl T.m_law_less T.F_law_less.kp T.b_law_less .nil passE0 (pa_cons (pv 7) (pa_cons (pe_ix (ixlK (K := K) rfl) (pv 4) (pv 5) (fun _ _ => rfl)) pa_nil)))) (pss_one (ps_ret pe_bl)) pss_nil)))))))
      (pss_one (ps_set (i := 3) sc_law_is_low.nd rfl (Or.inr rfl) (pv 4)))))
      (pss_one (ps_ret pe_bl)))), _, (sv_seq (sv_asg ev_non (gv_name 3))
      (sv_seq (sv_for (is_list (ev_var 2)) (gv_name 4)
        (sv_seq (sv_for (is_rng1 (av_cons (bv_ev (ev_cb rb_len (av_cons (bv_var 1) av_nil))) av_nil)) (gv_name 5)
        (sv_seq (sv_setO 6 (ov_lst (ae_cons (ev_ixl (lv_ev (ev_ixl (lv_var 1) (bv_var 5))) (bv_ev ev_int)) ae_nil) (by decide)))
      (sv_cut (sv_if (tv_test (bv_ev (ev_op ro_notN (bv_var 3) (bv_ev ev_non)))) (sv_setO 6 (ov_cat (mv_var 6) (mv_ov (ov_lc (IvS.e (is_rng2 (av_cons (bv_ev ev_int) (av_cons (bv_ev (ev_op ro_i0 (bv_var 5) (bv_ev ev_int))) av_nil)))) (gv_name 0) tv_yes (ev_call0 (av_cons (bv_var 1) (av_cons (bv_ev (ev_ixl (lv_var 2) (bv_ev (ev_op ro_i0 (bv_var 0) (bv_ev ev_int))))) (av_cons (bv_ev (ev_ixl (lv_ev (ev_ixl (lv_var 3) (bv_var 4))) (bv_var 0))) av_nil)))) (by decide) (by decide))))) sv_next)
      (sv_frz 6 (sv_for (is_list (ev_var 6)) (gv_name 7)
        (sv_if (tv_b (bv_ev (ev_call0 (av_cons (bv_var 7) (av_cons (bv_ev (ev_ixl (lv_var 4) (bv_var 5))) av_nil))))) (sv_ret (bv_ev ev_bl)) sv_next))))))
      (sv_asg (ev_var 4) (gv_name 3))))
      (sv_ret (bv_ev ev_bl)))), ?_⟩
  rintro ds Q X ⟨kd, C, tbl, D, rfl, hC, ht, hD, k⟩
  have n8 := hC.n8
  unfold lowTab at k
  walk_at "s"
  refine seq_mk (for_map (fun r : List Rat => PyData.list (r.map fr)) tbl (fun Q h => by walk_at "d"; exact h)
    (fun j δ => (∃ s4 s5 s6 s7 : Option Sl, δ = [some (.dat (.str kd)), some (.dat (.list (C.map rowD))), some (.dat (.list (tbl.map rowD))), some (.dat (ahD (ahO tbl j))), s4, s5, s6, s7]) ∧ ∀ j', j' < j → lowRow kd C (aheadOf tbl j') (tbl.getD j' []) = true) ⟨⟨none, none, none, none, rfl⟩, fun j hj => absurd hj (by omega)⟩ ?_ ?_)
  · rintro j r δ hj ⟨⟨s4, s5, s6, s7, rfl⟩, hI⟩
    have hjl := (List.getElem?_eq_some_iff.mp hj).1
    have er : tbl.getD j [] = r := by rw [List.getD_eq_getElem?_getD, hj]; rfl
    obtain ⟨rl, rd⟩ := ht r (List.mem_of_getElem? hj)
    obtain ⟨ah, hah⟩ : ∃ ah, ahO tbl j = ah := ⟨_, rfl⟩
    have eah : aheadOf tbl j = ahL ah := by rw [← hah, ahO_L]
    have ahok : ∀ a, ah = some a → a.length = C.length ∧ ∀ q ∈ a, Dg D q := fun a e => by
      rw [e] at hah
      unfold ahO at hah
      split at hah
      · cases hah
      · cases hah
        refine ht _ ?_
        rw [show tbl.getD (j - 1) [] = tbl[j - 1] by simp [List.getD, show j - 1 < tbl.length by omega]]
        exact List.getElem_mem _
    have al : ∀ q ∈ ahL ah, Dg D q := fun q hq => by
      cases ah with
      | none => cases hq
      | some a => exact (ahok a rfl).2 q hq
    rw [hah]
    walk_at "d"
    refine seq_mk (for_rng (lo := 0) (st := 1) (n := C.length) (fun Q h => by
        walk_at "d"
        refine ⟨by omega, ?_⟩
        rw [Int.toNat_natCast]; exact h)
      (fun i δ => (∃ s5 s6 s7 : Option Sl, δ = [some (.dat (.str kd)), some (.dat (.list (C.map rowD))), some (.dat (.list (tbl.map rowD))), some (.dat (ahD ah)), some (.dat (.list (r.map fr))), s5, s6, s7]) ∧ ∀ i', i' < i → lowE kd (C.getD i' []) (ahL ah) (r.getD i' 0) = true) ⟨⟨_, _, _, rfl⟩, fun i hi => absurd hi (by omega)⟩ ?_ ?_)
    · rintro i δ hi ⟨⟨s5, s6, s7, rfl⟩, hI2⟩
      rw [show (0 : Int) + (i : Int) * 1 = (i : Int) by omega]
      have cl := hC.len i hi
      have cd := hC.dg i hi
      obtain ⟨cs, hcs⟩ : ∃ cs, C.getD i [] = cs := ⟨_, rfl⟩
      rw [hcs] at cl cd
      have cne : cs ≠ [] := fun e => by rw [e] at cl; simp at cl
      have bd := bnd_dg (kd := kd) cd cne al
      obtain ⟨e, he⟩ : ∃ e, r.getD i 0 = e := ⟨_, rfl⟩
      have de : Dg D e := by rw [← he]; exact rd _ (getD_mem2 (by omega))
      have ar := atI_fr (qs := r) (k := (i : Int)) rfl (by omega)
      rw [he] at ar
      have ra := rows_at (tbl := C) (k := (i : Int)) rfl hi
      rw [hcs] at ra
      walk_at "s"
      refine ⟨_, ra, ?_⟩
      dsimp only
      refine ⟨_, atI_fr (j := 0) rfl (by omega), ?_⟩
      refine cut_mk (fun δ => ∃ s7 : Option Sl, δ = [some (.dat (.str kd)), some (.dat (.list (C.map rowD))), some (.dat (.list (tbl.map rowD))), some (.dat (ahD ah)), some (.dat (.list (r.map fr))), some (.dat (.int (i : Int))), some (.own ((bndL kd cs (ahL ah)).map fr)), s7]) ?_ ?_
      · cases ah with
        | none =>
          unfold ahD
          walk_at "d"
          exact ⟨_, rfl⟩
        | some a =>
          obtain ⟨al2, hd⟩ := ahok a rfl
          have zt : (a.zip (cs.drop 1)).map (fun p => joinR kd p.1 p.2) = (List.range i).map fun t => joinR kd (a.getD t 0) (cs.getD (t + 1) 0) := by
            refine List.ext_getElem (by rw [List.length_map, List.length_map, List.length_zip, List.length_drop, List.length_range]; omega) fun t h1 h2 => ?_
            rw [List.length_map, List.length_range] at h2
            simp [List.getD, show t < a.length by omega, show t + 1 < cs.length by omega, Nat.add_comm]
          unfold ahD
          walk_at "d"
          refine lc_map (fun t : Nat => PyData.int (1 + (t : Int) * 1)) fr (fun t : Nat => [joinR kd (a.getD t 0) (cs.getD (t + 1) 0)]) (List.range i) (by rw [List.length_range]; omega) (fun Q h => by
              walk_at "d"
              have e : ((i : Int) + 1 - 1).toNat = i := by omega
              rw [e]
              exact ⟨by omega, h⟩) (fun t ht N acc hN => ?_) ?_
          · have ht2 := List.mem_range.mp ht
            rw [show (1 : Int) + (t : Int) * 1 = ((t + 1 : Nat) : Int) by omega]
            walk_at "d"
            refine ⟨_, atI_fr (j := t) (by omega) (by omega), _, ra, ?_⟩
            dsimp only
            refine ⟨_, atI_fr (j := t + 1) rfl (by omega), kd, _, _, D, 75, rfl, hd _ (getD_mem2 (by omega)), cd _ (getD_mem2 (by omega)), by omega, ?_⟩
            walk_at "d"
            exact hN
          rw [flat_single, ← zt]
          refine ⟨by simp only [List.length_map, List.length_zip, List.length_drop, List.length_cons, List.length_nil]; omega, _, rfl⟩
      rintro δ ⟨s7, rfl⟩
      walk_at "d"
      refine for_map fr (bndL kd cs (ahL ah)) (fun Q h => by
          walk_at "d"
          exact h)
        (fun t δ => (∃ s7 : Option Sl, δ = [some (.dat (.str kd)), some (.dat (.list (C.map rowD))), some (.dat (.list (tbl.map rowD))), some (.dat (ahD ah)), some (.dat (.list (r.map fr))), some (.dat (.int (i : Int))), some (.dat (.list ((bndL kd cs (ahL ah)).map fr))), s7]) ∧ ∀ (t' : Nat) (q : Rat), t' < t → (bndL kd cs (ahL ah))[t']? = some q → ¬ q < e) ⟨⟨_, rfl⟩, fun t q ht => absurd ht (by omega)⟩ ?_ ?_
      · rintro t q δ hq ⟨⟨s7, rfl⟩, hI3⟩
        have hqm := List.mem_of_getElem? hq
        have dq := bd q hqm
        walk_at "d"
        refine ⟨_, ar, q, e, rfl, dgOk dq (by omega), dgOk de (by omega), ?_⟩
        walk_at "d"
        refine ite2 (fun c => ?_) (fun c => ?_)
        · have z : lowE kd (C.getD i []) (ahL ah) (r.getD i 0) = false := by
            rw [hcs, he, lowE_bnd]
            exact all_false hqm (by simpa using c)
          have z2 : lowRow kd C (aheadOf tbl j) (tbl.getD j []) = false := by
            rw [eah, er]
            exact lowRow_false rl hi z
          rw [all_false (List.mem_range.mpr hjl) z2] at k
          exact k
        · walk_at "d"
          refine ⟨⟨_, rfl⟩, fun t' q' ht' hq' => ?_⟩
          rcases Nat.lt_or_eq_of_le (Nat.lt_succ_iff.mp ht') with hl | rfl
          · exact hI3 t' q' hl hq'
          · rw [hq] at hq'
            cases hq'
            exact c
      · rintro δ ⟨⟨s7, rfl⟩, hI3⟩
        refine ⟨⟨_, _, _, rfl⟩, fun i' hi' => ?_⟩
        rcases Nat.lt_or_eq_of_le (Nat.lt_succ_iff.mp hi') with hl | rfl
        · exact hI2 i' hl
        · rw [hcs, he, lowE_bnd]
          refine all_true fun t q hq => ?_
          have := hI3 t q (List.getElem?_eq_some_iff.mp hq).1 hq
          simpa using this
    · rintro δ ⟨⟨s5, s6, s7, rfl⟩, hI2⟩
      walk_at "d"
      have e2 : ahD (ahO tbl (j + 1)) = .list (r.map fr) := by
        unfold ahO
        rw [if_neg (by omega), Nat.add_sub_cancel, er]
        rfl
      rw [e2]
      refine ⟨⟨_, _, _, _, rfl⟩, fun j' hj' => ?_⟩
      rcases Nat.lt_or_eq_of_le (Nat.lt_succ_iff.mp hj') with hl | rfl
      · exact hI j' hl
      · rw [eah, er]
        exact lowRow_true rl hI2
  · rintro δ ⟨⟨s4, s5, s6, s7, rfl⟩, hI⟩
    walk_at "d"
    rw [all_true (fun i p hp => by
      have h1 := (List.getElem?_eq_some_iff.mp hp).1
      rw [List.length_range] at h1
      rw [List.getElem?_range h1] at hp
      cases hp
      exact hI _ h1)] at k
    exact k
end
theorem fsum_mono {p q : Pr → Bool} : ∀ {zs : List Pr}, (∀ z ∈ zs, 0 ≤ z.2) → (∀ z ∈ zs, p z = true → q z = true) → fsum p zs ≤ fsum q zs
  | [], _, _ => Rat.le_refl
  | z :: zs, nn, h => by
    have ih := fsum_mono (p := p) (q := q) (zs := zs) (fun y hy => nn y (List.mem_cons_of_mem _ hy)) fun y hy => h y (List.mem_cons_of_mem _ hy)
    have n0 := nn z List.mem_cons_self
    have h0 := h z List.mem_cons_self
    unfold fsum at ih ⊢
    by_cases hp : p z = true
    · rw [List.filter_cons_of_pos hp, List.filter_cons_of_pos (h0 hp), List.map_cons, List.map_cons]
      show z.2 + _ ≤ z.2 + _
      grind
    · rw [List.filter_cons_of_neg hp]
      by_cases hq : q z = true
      · rw [List.filter_cons_of_pos hq, List.map_cons]
        show _ ≤ z.2 + _
        grind
      · rw [List.filter_cons_of_neg hq]
        exact ih
theorem mid_lt {zs : List Pr} {x y : Rat} (nn : ∀ z ∈ zs, 0 ≤ z.2) (hx : Mid zs x) (hy : Mid zs y) : ¬ x < y := fun h => by
  have h1 := hx.hi
  have h2 := hy.lo
  have h3 := fsum_mono (p := fun z => decide (z.1 ≤ x)) (q := fun z => decide (z.1 < y)) nn fun z _ hz => by
    simp only [decide_eq_true_eq] at hz ⊢
    grind
  grind
theorem level_uniq {kd : Str} {S : List Mk} {x y : Rat} (hk : kd ∈ kdsL) (hw : ∀ m ∈ S, 1 ≤ m.2.2) (X : LevelOk kd S x) (Y : LevelOk kd S y) : x = y := by
  have hk3 : kd = "far" ∨ kd = "sum" ∨ kd = "square" := by simpa [kdsL] using hk
  rcases hk3 with rfl | rfl | rfl
  · obtain ⟨a, b, a1, a2, b1, b2, ex⟩ := X.far rfl
    obtain ⟨a', b', a1', a2', b1', b2', ey⟩ := Y.far rfl
    rw [ex, ey, Rat.le_antisymm (a2' a a1) (a2 a' a1'), Rat.le_antisymm (b2 b' b1') (b2' b b1)]
  · have nn : ∀ z ∈ (hgts S).zip (wgts S), 0 ≤ z.2 := fun z hz => by
      have := (List.of_mem_zip (a := z.1) (b := z.2) hz).2
      obtain ⟨m, hm, e⟩ := List.mem_map.mp this
      rw [← e]
      have := hw m hm
      exact Rat.intCast_nonneg.mpr (by omega)
    exact Rat.le_antisymm (Rat.not_lt.mp (mid_lt nn (Y.sum rfl) (X.sum rfl))) (Rat.not_lt.mp (mid_lt nn (X.sum rfl) (Y.sum rfl)))
  · rw [X.sq rfl, Y.sq rfl]
theorem laid_uniq {kd : Str} {ms : List Mk} (hk : kd ∈ kdsL) (hw : ∀ m ∈ ms, 1 ≤ m.2.2) {j i : Nat} {r : List Rat} (L : Laid kd ms j i r) : ∀ {r' : List Rat}, Laid kd ms j i r' → r' = r := by
  induction L with
  | @base j i x h0 hL =>
    intro r' L'
    cases L' with
    | base h0' hL' => rw [level_uniq hk (fun m hm => hw m (str_mem2 hm)) hL' hL]
    | step h0' _ _ _ => rw [h0'] at h0; cases h0
  | @step j i h x r h0 hh hr hL ih =>
    intro r' L'
    cases L' with
    | base h0' hL' => rw [h0'] at h0; cases h0
    | @step _ _ h' x' r2 h0' hh' hr' hL' =>
      have eh : h' = h := by rw [h0'] at h0; omega
      subst eh
      rw [ih hr', level_uniq hk (fun m hm => hw m (str_mem2 hm)) hL' hL]
theorem fw_cnt {j : Nat} {x : Rat} {r : List Rat} (h : FwL j x r) : cntR r ≤ j ∧ r.getLast? = some x := by
  induction h with
  | one j x => exact ⟨Nat.zero_le _, rfl⟩
  | @same j x r h ih =>
    obtain ⟨h1, h2⟩ := ih
    obtain ⟨l, rfl⟩ : ∃ l, r = l ++ [x] := by
      obtain ⟨l, e⟩ := List.getLast?_eq_some_iff.mp h2
      exact ⟨l, e⟩
    refine ⟨?_, by simp⟩
    rw [List.append_assoc]
    show cntR (l ++ [x, x]) ≤ j
    rw [cntR_snoc, if_pos rfl]
    exact h1
  | @step j x y r h ih =>
    obtain ⟨h1, h2⟩ := ih
    obtain ⟨l, rfl⟩ : ∃ l, r = l ++ [y] := by
      obtain ⟨l, e⟩ := List.getLast?_eq_some_iff.mp h2
      exact ⟨l, e⟩
    refine ⟨?_, by simp⟩
    rw [List.append_assoc]
    show cntR (l ++ [y, x]) ≤ j + 1
    rw [cntR_snoc]
    split <;> omega
theorem tab_lowT {kd : Str} {ms : List Mk} (k : Nat) : lowTab kd (costC kd ms) ((List.range k).map fun j => entL kd ms (j + 1)) = true := by
  have Cl : (costC kd ms).length = ms.length := by simp [costC]
  obtain ⟨tbl, ht⟩ : ∃ tbl, ((List.range k).map fun j => entL kd ms (j + 1)) = tbl := ⟨_, rfl⟩
  have tl : tbl.length = k := by rw [← ht]; simp
  have ta : ∀ j, j < k → tbl.getD j [] = entL kd ms (j + 1) := fun j hj => by rw [← ht]; simp [List.getD, hj]
  rw [ht]
  unfold lowTab
  refine all_true fun j x hj => ?_
  have hjl := (List.getElem?_eq_some_iff.mp hj).1
  rw [List.length_range] at hjl
  rw [List.getElem?_range hjl] at hj
  cases hj
  rw [tl] at hjl
  rw [ta j hjl]
  refine lowRow_true (by rw [Cl]; simp [entL]) fun i hi => ?_
  have ca : (costC kd ms).getD i [] = costL kd ms i := by
    have : i < ms.length := by omega
    simp [costC, List.getD, this]
  rw [ca, entL_at (by omega), lowE_bnd]
  refine List.all_eq_true.mpr fun q hq => ?_
  have hb : ∀ (ah : List Rat), (∀ h, h < i → h < ah.length → (tabE kd (fun f l => cF kd (strch ms f l)) j i).1 ≤ joinR kd (ah.getD h 0) (cF kd (strch ms (h + 1) i))) → (tabE kd (fun f l => cF kd (strch ms f l)) j i).1 ≤ cF kd (strch ms 0 i) → ∀ q ∈ bndL kd (costL kd ms i) ah, (tabE kd (fun f l => cF kd (strch ms f l)) j i).1 ≤ q := fun ah h1 h2 q hq => by
    unfold bndL at hq
    rcases List.mem_cons.mp hq with rfl | hq
    · rw [costL_at (by omega)]; exact h2
    · obtain ⟨pp, hp, rfl⟩ := List.mem_map.mp hq
      obtain ⟨t, ht⟩ := List.mem_iff_getElem?.mp hp
      obtain ⟨h3, h4⟩ := List.getElem?_zip_eq_some.mp ht
      rw [List.getElem?_drop] at h4
      have l3 := (List.getElem?_eq_some_iff.mp h3).1
      have l4 := (List.getElem?_eq_some_iff.mp h4).1
      have cl : (costL kd ms i).length = i + 1 := by simp [costL]
      rw [cl] at l4
      have e3 : pp.1 = ah.getD t 0 := by rw [List.getD_eq_getElem?_getD, h3]; rfl
      have e4 : pp.2 = cF kd (strch ms (t + 1) i) := by
        rw [← costL_at (kd := kd) (ms := ms) (l := i) (f := t + 1) (by omega), List.getD_eq_getElem?_getD, ← Nat.add_comm 1 t, h4]; rfl
      rw [e3, e4]
      exact h1 t (by omega) l3
  have hle : (tabE kd (fun f l => cF kd (strch ms f l)) j i).1 ≤ q := by
    cases j with
    | zero =>
      refine hb _ (fun h _ hl => ?_) Rat.le_refl q hq
      unfold aheadOf at hl
      rw [if_pos rfl] at hl
      exact absurd hl (by simp)
    | succ j =>
      obtain ⟨b1, b2⟩ := best_le kd (fun f l => cF kd (strch ms f l)) (fun h => (tabE kd (fun f l => cF kd (strch ms f l)) j h).1) i i
      refine hb _ (fun h hh _ => ?_) b1 q hq
      have ea : aheadOf tbl (j + 1) = entL kd ms (j + 1) := by
        unfold aheadOf
        rw [if_neg (by omega), Nat.add_sub_cancel, ta j (by omega)]
      rw [ea, entL_at (by omega)]
      exact b2 h hh
  have : ¬ q < (tabE kd (fun f l => cF kd (strch ms f l)) j i).1 := Rat.not_lt.mpr hle
  simpa using this
section
variable {P : Program} {w : World} {K : PySem.W.Frag} {mg : Str → Option Value} {base : Heap} {A : Adr}
noncomputable def wRow : DW := fun ds Q _ => ∃ (qs : List Rat) (n : Nat), ds = [.list (qs.map fr), .int (n : Int)] ∧ qs.length = n ∧ n ≤ 60 ∧ (∀ q ∈ qs, Dg 2000 q) ∧ Q (.dat (.bool true))
theorem ok_law_row (T : Txt K mg A) : FnOk P w K mg base (CXE P w) 3 A.a_law_row A.d_law_row ["found", "many"] (spW K wRow) := by
  have G_law_fraction := ok_law_fraction (P := P) (w := w) (base := base) T
  have G_law_lowest := ok_law_lowest (P := P) (w := w) (base := base) T
  refine okW T.F_law_row sc_law_row (fun ds Q E h => ?_) (fun cdv Ar outer s H E hr => ?_)
  · obtain ⟨_, _, rfl, _⟩ := h; rfl
  refine ⟨_, (pss_cons (ps_if (PW.pt (pw_or (pt_not (pt_val (pe_callB (isiDK (K := K) rfl) rfl T.n_isinstance bt_isinstance (pa_cons (pv 0) (pa_cons (pe_bltn rfl T.n_list bt_list (show RelV (.ty "list") (.type "list") from rfl)) pa_nil))))) (pw_or1 (pt_cmpR op_ne (pe_callB (lenK (K := K) rfl) rfl T.n_len PySem.boot_len (pa_cons (pv 0) pa_nil)) (pv 1) (nomark _))))) (pss_one (ps_ret pe_bl)) pss_nil)
      (pss_cons (ps_for PassesOwn.leaving rfl (pilK (K := K) rfl (pv 0)) (pg_name (i := 2) sc_law_row.nd rfl (Or.inl rfl))
        (pss_one (ps_if (PW.pt (pw_or (pt_not (pt_val (pe_call G_law_fraction (hr.mono (by decide)) rfl T.m_law_fraction T.F_law_fraction.kp T.b_law_fraction .nil passE0 (pa_cons (pv 2) pa_nil)))) (pw_or (pt_cmpR op_lt (pe_ix (ixtK (K := K) rfl) (pv 2) pe_int (fun _ _ => rfl)) pe_int (nomark _)) (pw_or1 (pt_cmpR (neK (K := K) rfl hr.units) (pe_call G_law_lowest (hr.mono (by decide)) rfl T.m_law_lowest T.F_law_lowest.kp T.b_law_lowest .nil passE0 (pa_cons (pe_ix (ixtK (K := K) rfl) (pv 2) pe_int (fun _ _ => rfl)) (pa_cons (pe_ix (ixtK (K := K) rfl) (pv 2) pe_int (fun _ _ => rfl)) pa_nil))) (pv 2) (nomark _)))))) (pss_one (ps_ret pe_bl)) pss_nil)))
      (pss_one (ps_ret pe_bl)))), _, (sv_seq (sv_if (tv_or (tv_not (tv_b (bv_ev (ev_isi (by decide) (bv_var 0))))) (tv_test (bv_ev (ev_op ro_ne (bv_ev (ev_cb rb_len (av_cons (bv_var 0) av_nil))) (bv_var 1))))) (sv_ret (bv_ev ev_bl)) sv_next)
      (sv_seq (sv_for (is_list (ev_var 0)) (gv_name 2)
        (sv_if (tv_or (tv_not (tv_b (bv_ev (ev_call0 (av_cons (bv_var 2) av_nil))))) (tv_or (tv_test (bv_ev (ev_op ro_b0 (bv_ev (ev_ixk 1 (ev_var 2))) (bv_ev ev_int)))) (tv_test (bv_ev (ev_op ro_neD (bv_ev (ev_call0 (av_cons (bv_ev (ev_ixk 0 (ev_var 2))) (av_cons (bv_ev (ev_ixk 1 (ev_var 2))) av_nil)))) (bv_var 2)))))) (sv_ret (bv_ev ev_bl)) sv_next))
      (sv_ret (bv_ev ev_bl)))), ?_⟩
  rintro ds Q X ⟨qs, n, rfl, hl, n60, hd, k⟩
  walk_at "s"
  refine ite2 (fun c => absurd c (by decide)) (fun _ => ?_)
  refine ite2 (fun c => absurd c (by omega)) (fun _ => ?_)
  refine seq_mk (for_map fr qs (fun Q h => by walk_at "d"; exact h) (fun i δ => ∃ s2 : Option Sl, δ = [some (.dat (.list (qs.map fr))), some (.dat (.int (n : Int))), s2]) ⟨none, rfl⟩ ?_ ?_)
  · rintro i q δ hq ⟨s2, rfl⟩
    have oq : Ok q := dgOk (hd q (List.mem_of_getElem? hq)) (by decide)
    have dq := dpos q
    walk_at "d"
    refine ⟨q, rfl, ?_⟩
    walk_at "d"
    refine ite2 (fun c => absurd c (by omega)) (fun _ => ?_)
    refine ⟨q.num, (q.den : Int), rfl, by omega, oq.d, ?_⟩
    walk_at "d"
    refine ⟨Rat, eRat, Rat.divInt q.num (q.den : Int), q, rfl, rfl, fun b hb => ?_⟩
    rw [hb.mpr (Rat.num_divInt_den q)]
    walk_at "d"
    exact ⟨_, rfl⟩
  · rintro δ ⟨s2, rfl⟩
    walk_at "d"
    exact k
noncomputable def wMany : DW := fun ds Q _ => ∃ (ns : List Int) (n : Nat), ds = [.list (ns.map .int), .int (n : Int)] ∧ ∀ k : Nat, k ≤ 59 → Q (.dat (.int (k : Int)))
theorem ok_law_many_steps (T : Txt K mg A) : FnOk P w K mg base (CXE P w) 2 A.a_law_many_steps A.d_law_many_steps ["script", "many"] (spW K wMany) := by
  have G_law_cell := ok_law_cell (P := P) (w := w) (base := base) T
  refine okW T.F_law_many_steps sc_law_many_steps (fun ds Q E h => ?_) (fun cdv Ar outer s H E hr => ?_)
  · obtain ⟨_, _, rfl, _⟩ := h; rfl
  refine ⟨_, (pss_cons (ps_if (pt_cmpR op_eq (pe_op op_mod (pe_op op_fdivB (pe_call G_law_cell (hr.mono (by decide)) rfl T.m_law_cell T.F_law_cell.kp T.b_law_cell .nil passE0 (pa_cons (pv 0) (pa_cons pe_int pa_nil))) pe_int) pe_int) pe_int (nomark _)) (pss_one (ps_ret (pe_callB (call_min2 rfl) rfl T.n_min bt_min (pa_cons (pv 1) (pa_cons pe_int pa_nil))))) pss_nil)
      (pss_cons (ps_if (PW.pt (pw_and (pt_cmpR op_eq (pe_op op_mod (pe_op op_fdivB (pe_call G_law_cell (hr.mono (by decide)) rfl T.m_law_cell T.F_law_cell.kp T.b_law_cell .nil passE0 (pa_cons (pv 0) (pa_cons pe_int pa_nil))) pe_int) pe_int) pe_int (nomark _)) (pw_and1 (pt_cmpR op_lt (pv 1) pe_int (nomark _))))) (pss_one (ps_ret pe_int)) pss_nil)
      (pss_one (ps_ret (pe_op op_mod (pe_op op_fdivB (pe_call G_law_cell (hr.mono (by decide)) rfl T.m_law_cell T.F_law_cell.kp T.b_law_cell .nil passE0 (pa_cons (pv 0) (pa_cons pe_int pa_nil))) pe_int) pe_int))))), _, (sv_seq (sv_if (tv_test (bv_ev (ev_op ro_eq (bv_ev (ev_mdk (k := 9) (by decide) (bv_ev (ev_dvk (k := 72) (cdiv (by decide +kernel)) (bv_ev (ev_call0 (av_cons (bv_var 0) (av_cons (bv_ev ev_int) av_nil)))) ev_int)) ev_int)) (bv_ev ev_int)))) (sv_ret (bv_ev (ev_cb rb_min (av_cons (bv_var 1) (av_cons (bv_ev ev_int) av_nil))))) sv_next)
      (sv_seq (sv_if (tv_and (tv_test (bv_ev (ev_op ro_eq (bv_ev (ev_mdk (k := 9) (by decide) (bv_ev (ev_dvk (k := 72) (cdiv (by decide +kernel)) (bv_ev (ev_call0 (av_cons (bv_var 0) (av_cons (bv_ev ev_int) av_nil)))) ev_int)) ev_int)) (bv_ev ev_int)))) (tv_test (bv_ev (ev_op ro_b0 (bv_var 1) (bv_ev ev_int))))) (sv_ret (bv_ev ev_int)) sv_next)
      (sv_ret (bv_ev (ev_mdk (k := 4) (by decide) (bv_ev (ev_dvk (k := 18) (cdiv (by decide +kernel)) (bv_ev (ev_call0 (av_cons (bv_var 0) (av_cons (bv_ev ev_int) av_nil)))) ev_int)) ev_int))))), ?_⟩
  rintro ds Q X ⟨ns, n, rfl, k⟩
  walk_at "s"
  refine ⟨ns, 0, rfl, by decide, by decide, ?_⟩
  walk_at "d"
  refine ite2 (fun _ => ?_) (fun _ => ?_)
  · walk_at "d"
    obtain ⟨m, hm, m1⟩ : ∃ m : Nat, (if 8 < (n : Int) then 8 else (n : Int)) = (m : Int) ∧ m ≤ 59 := ⟨(if 8 < (n : Int) then 8 else (n : Int)).toNat, by split <;> omega, by split <;> omega⟩
    rw [hm]
    exact k m m1
  · walk_at "s"
    refine ⟨ns, 0, rfl, by decide, by decide, ?_⟩
    walk_at "d"
    have last : ∃ m : Nat, cellF ns 0 / 18 % 4 = (m : Int) ∧ m ≤ 59 := ⟨(cellF ns 0 / 18 % 4).toNat, by omega, by omega⟩
    obtain ⟨m, hm, m1⟩ := last
    refine ite2 (fun _ => ite2 (fun _ => ?_) (fun _ => ?_)) (fun _ => ?_)
    · exact k 59 (by decide)
    · walk_at "d"
      refine ⟨ns, 0, rfl, by decide, by decide, ?_⟩
      walk_at "d"
      rw [hm]
      exact k m m1
    · walk_at "d"
      refine ⟨ns, 0, rfl, by decide, by decide, ?_⟩
      walk_at "d"
      rw [hm]
      exact k m m1
end
noncomputable def eT2 {α β : Type} (a : Enc α) (b : Enc β) (h : a.dep ≤ 50) (h' : b.dep ≤ 50) : Enc (α × β) where
  d := fun p => .tuple [a.d p.1, b.d p.2]
  dep := a.dep + b.dep + 1 - min a.dep b.dep
  small := by omega
  lay := fun p => by
    show ((a.d p.1).canLay0 && ((b.d p.2).canLay0 && true)) = true
    rw [a.lay, b.lay]; rfl
  depth := fun p => by
    have h1 := a.depth p.1
    have h2 := b.depth p.2
    simp only [PyData.depth, PyData.depthAll]
    omega
  eqv := fun p q => by
    show PyData.eqvAll [a.d p.1, b.d p.2] [a.d q.1, b.d q.2] = true ↔ p = q
    have h1 := a.eqv p.1 q.1
    have h2 := b.eqv p.2 q.2
    simp only [PyData.eqvAll, Bool.and_eq_true, h1, h2, and_true]
    exact ⟨fun ⟨x, y⟩ => Prod.ext x y, fun e => by rw [e]; exact ⟨rfl, rfl⟩⟩
theorem cs_ok {kd : Str} {ms : List Mk} {L : Nat} (hk : kd ∈ kdsL) (M : MkS L ms) (n8 : ms.length ≤ 12) : CsOk (costC kd ms) := by
  have Cl : (costC kd ms).length = ms.length := by simp [costC]
  have at' : ∀ i, i < ms.length → (costC kd ms).getD i [] = costL kd ms i := fun i hi => by simp [costC, List.getD, hi]
  refine ⟨by omega, fun i hi => ?_, fun i hi q hq => ?_⟩
  · rw [at' i (by omega)]
    simp [costL]
  · rw [at' i (by omega)] at hq
    obtain ⟨f, hf, rfl⟩ := List.mem_map.mp hq
    have := List.mem_range.mp hf
    exact M.cost hk (by omega) (by omega)
noncomputable def tblF (kd : Str) (ms : List Mk) (k : Nat) : List (List Rat) := (List.range k).map fun j => entL kd ms (j + 1)
theorem tblF_is (kd : Str) (ms : List Mk) (k : Nat) : tableT kd ms k = (tblF kd ms k).map rowD := by
  unfold tableT tblF
  rw [List.map_map]
  rfl
theorem tblF_ok {kd : Str} {ms : List Mk} {L k : Nat} (hk : kd ∈ kdsL) (M : MkS L ms) : ∀ r ∈ tblF kd ms k, r.length = ms.length ∧ ∀ q ∈ r, Dg 912 q := fun r h => by
  obtain ⟨j, hj, rfl⟩ := List.mem_map.mp h
  refine ⟨by simp [entL], fun q hq => ?_⟩
  obtain ⟨i, hi, rfl⟩ := List.mem_map.mp hq
  have hi2 := List.mem_range.mp hi
  exact (tab_dg (D := 75) (fun f l h1 h2 => M.cost hk h1 h2) j i hi2).mono (by have := M.n12; omega)
theorem ixN_nat' {n j : Nat} {k : Int} (e : k = (j : Int)) (h : j < n) : ixN n k = some j := by
  unfold ixN
  rw [if_pos (by omega), if_pos (by omega), e, Int.toNat_natCast]
section
variable {P : Program} {w : World} {K : PySem.W.Frag} {mg : Str → Option Value} {base : Heap} {A : Adr}
theorem ok_law (T : Txt K mg A) : FnOk P w K mg base (CXE P w) 11 A.a_law A.d_law ["script"] (spLaw K) := by
  have G_law_cell := ok_law_cell (P := P) (w := w) (base := base) T
  have G_law_heights := ok_law_heights (P := P) (w := w) (base := base) T
  have G_law_weights := ok_law_weights (P := P) (w := w) (base := base) T
  have G_law_bottom := ok_law_bottom (P := P) (w := w) (base := base) T
  have G_law_marks := ok_law_marks (P := P) (w := w) (base := base) T
  have G_law_many_steps := ok_law_many_steps (P := P) (w := w) (base := base) T
  have G_step_least := ok_step_least (P := P) (w := w) (base := base) T
  have G_law_row := ok_law_row (P := P) (w := w) (base := base) T
  have G_law_steps := ok_law_steps (P := P) (w := w) (base := base) T
  have G_law_missed := ok_law_missed (P := P) (w := w) (base := base) T
  have G_law_cost := ok_law_cost (P := P) (w := w) (base := base) T
  have G_law_is_low := ok_law_is_low (P := P) (w := w) (base := base) T
  refine law_of (okW T.F_law sc_law (fun ds Q E h => ?_) (fun cdv Ar outer s H E hr => ?_))
  · obtain ⟨a, rfl, _⟩ := h; rfl
  refine ⟨_, (pss_cons (ps_set (i := 1) sc_law.nd rfl (Or.inl rfl) (pe_op op_add pe_int (pe_op op_mod (pe_call G_law_cell (hr.mono (by decide)) rfl T.m_law_cell T.F_law_cell.kp T.b_law_cell .nil passE0 (pa_cons (pv 0) (pa_cons pe_int pa_nil))) pe_int)))
      (pss_cons (ps_if (pt_cmpR op_eq (pe_op op_mod (pe_op op_fdivB (pe_call G_law_cell (hr.mono (by decide)) rfl T.m_law_cell T.F_law_cell.kp T.b_law_cell .nil passE0 (pa_cons (pv 0) (pa_cons pe_int pa_nil))) pe_int) pe_int) pe_int (nomark _)) (pss_one (ps_set (i := 1) sc_law.nd rfl (Or.inl rfl) pe_int)) pss_nil)
      (pss_cons (ps_set (i := 2) sc_law.nd rfl (Or.inr rfl) (pe_call G_law_heights (hr.mono (by decide)) rfl T.m_law_heights T.F_law_heights.kp T.b_law_heights .nil passE0 (pa_cons (pv 0) (pa_cons (pv 1) pa_nil))))
      (pss_cons (ps_set (i := 3) sc_law.nd rfl (Or.inr rfl) (pe_call G_law_weights (hr.mono (by decide)) rfl T.m_law_weights T.F_law_weights.kp T.b_law_weights .nil passE0 (pa_cons (pv 0) (pa_cons (pv 1) pa_nil))))
      (pss_cons (ps_set (i := 4) sc_law.nd rfl (Or.inr rfl) (pe_call G_law_bottom (hr.mono (by decide)) rfl T.m_law_bottom T.F_law_bottom.kp T.b_law_bottom .nil passE0 (pa_cons (pv 0) pa_nil)))
      (pss_cons (ps_set (i := 5) sc_law.nd rfl (Or.inl rfl) (pe_call G_law_marks (hr.mono (by decide)) rfl T.m_law_marks T.F_law_marks.kp T.b_law_marks .nil passE0 (pa_cons (pv 0) (pa_cons (pv 2) (pa_cons (pv 3) (pa_cons (pv 4) pa_nil))))))
      (pss_cons (ps_set (i := 6) sc_law.nd rfl (Or.inr rfl) (pe_ix (ixlK (K := K) rfl) (pe_lst (pa_cons pe_str (pa_cons pe_str (pa_cons pe_str pa_nil)))) (pe_op op_mod (pe_op op_fdivB (pe_call G_law_cell (hr.mono (by decide)) rfl T.m_law_cell T.F_law_cell.kp T.b_law_cell .nil passE0 (pa_cons (pv 0) (pa_cons pe_int pa_nil))) pe_int) pe_int) (fun _ _ => rfl)))
      (pss_cons (ps_set (i := 7) sc_law.nd rfl (Or.inl rfl) (pe_call G_law_many_steps (hr.mono (by decide)) rfl T.m_law_many_steps T.F_law_many_steps.kp T.b_law_many_steps .nil passE0 (pa_cons (pv 0) (pa_cons (pv 1) pa_nil))))
      (pss_cons (ps_set (i := 8) sc_law.nd rfl (Or.inl rfl) (pe_callTy (listK (K := K) rfl) rfl T.n_list bt_list (pa_cons (pv 5) pa_nil)))
      (pss_cons (ps_set (i := 9) sc_law.nd rfl (Or.inl rfl) (pe_call G_step_least (hr.mono (by decide)) rfl T.m_step_least T.F_step_least.kp T.b_step_least .nil passE0 (pa_cons (pv 6) (pa_cons (pv 8) (pa_cons (pv 7) pa_nil)))))
      (pss_cons (ps_if (PW.pt (pw_or (pt_cmpR (neK (K := K) rfl hr.units) (pv 8) (pv 5) (nomark _)) (pw_or (pt_not (pt_val (pe_callB (isiDK (K := K) rfl) rfl T.n_isinstance bt_isinstance (pa_cons (pv 9) (pa_cons (pe_bltn rfl T.n_tuple bt_tuple (show RelV (.ty "tuple") (.type "tuple") from rfl)) pa_nil))))) (pw_or1 (pt_cmpR op_ne (pe_callB (lenK (K := K) rfl) rfl T.n_len PySem.boot_len (pa_cons (pv 9) pa_nil)) pe_int (nomark _)))))) (pss_one (ps_ret pe_bl)) pss_nil)
      (pss_cons (ps_asg (pv 9) (pgtK (K := K) (n := 2) rfl rfl (pgs_cons (pg_name (i := 10) sc_law.nd rfl (Or.inl rfl)) (pgs_cons (pg_name (i := 11) sc_law.nd rfl (Or.inl rfl)) pgs_nil))))
      (pss_cons (ps_if (PW.pt (pw_or (pt_not (pt_val (pe_call G_law_row (hr.mono (by decide)) rfl T.m_law_row T.F_law_row.kp T.b_law_row .nil passE0 (pa_cons (pv 10) (pa_cons (pv 1) pa_nil))))) (pw_or (pt_cmpR op_gt (pe_call G_law_steps (hr.mono (by decide)) rfl T.m_law_steps T.F_law_steps.kp T.b_law_steps .nil passE0 (pa_cons (pv 10) pa_nil)) (pv 7) (nomark _)) (pw_or (pt_not (pt_val (pe_callB (isiDK (K := K) rfl) rfl T.n_isinstance bt_isinstance (pa_cons (pv 11) (pa_cons (pe_bltn rfl T.n_list bt_list (show RelV (.ty "list") (.type "list") from rfl)) pa_nil))))) (pw_or1 (pt_cmpR op_ne (pe_callB (lenK (K := K) rfl) rfl T.n_len PySem.boot_len (pa_cons (pv 11) pa_nil)) (pe_op op_add (pv 7) pe_int) (nomark _))))))) (pss_one (ps_ret pe_bl)) pss_nil)
      (pss_cons (ps_for PassesOwn.leaving rfl (pilK (K := K) rfl (pv 11)) (pg_name (i := 12) sc_law.nd rfl (Or.inl rfl))
        (pss_one (ps_if (pt_not (pt_val (pe_call G_law_row (hr.mono (by decide)) rfl T.m_law_row T.F_law_row.kp T.b_law_row .nil passE0 (pa_cons (pv 12) (pa_cons (pv 1) pa_nil))))) (pss_one (ps_ret pe_bl)) pss_nil)))
      (pss_cons (ps_if (pt_cmpR (neK (K := K) rfl hr.units) (pe_ix (ixlK (K := K) rfl) (pe_ix (ixlK (K := K) rfl) (pv 11) (pv 7) (fun _ _ => rfl)) (pe_op op_sub (pv 1) pe_int) (fun _ _ => rfl)) (pe_call G_law_missed (hr.mono (by decide)) rfl T.m_law_missed T.F_law_missed.kp T.b_law_missed .nil passE0 (pa_cons (pv 6) (pa_cons (pv 5) (pa_cons (pv 10) pa_nil)))) (nomark _)) (pss_one (ps_ret pe_bl)) pss_nil)
      (pss_cons (ps_set (i := 13) sc_law.nd rfl (Or.inl rfl) (pe_lst pa_nil))
      (pss_cons (ps_for PassesOwn.leaving rfl (pi_range1 rfl T.n_range (pa_cons (pv 1) pa_nil)) (pg_name (i := 14) sc_law.nd rfl (Or.inr rfl))
        (pss_one (ps_expr (pe_bm PySem.F.plainAttrs_list PySem.F.slot_list_append PySem.F.type_list_append mt_append (pv 13) (pa_cons (pe_lc (cap := [none, some 6, some 4, some 2, some 3, some 14]) (NC := ["h", "kind", "bottom", "heights", "weights", "i"]) rfl ⟨rfl, rfl, by decide +kernel, by decide +kernel, ⟨⟨_, rfl, rfl, rfl, rfl, rfl⟩, ⟨⟨_, rfl, rfl, rfl, rfl, rfl⟩, ⟨⟨_, rfl, rfl, rfl, rfl, rfl⟩, ⟨⟨_, rfl, rfl, rfl, rfl, rfl⟩, ⟨⟨_, rfl, rfl, rfl, rfl, rfl⟩, trivial⟩⟩⟩⟩⟩, (List.forall_mem_cons.2 ⟨rfl, (List.forall_mem_cons.2 ⟨rfl, (List.forall_mem_cons.2 ⟨rfl, (List.forall_mem_cons.2 ⟨rfl, (List.forall_mem_cons.2 ⟨rfl, (fun _ h => nomatch h)⟩)⟩)⟩)⟩)⟩), rfl⟩ (pi_range1 rfl T.n_range (pa_cons (pe_op op_add (pv 14) pe_int) pa_nil)) (fun _ _ _ _ => (pg_name (i := 0) (show List.Nodup (["h", "kind", "bottom", "heights", "weights", "i"] : List Str) by decide) rfl (Or.inl rfl))) (fun _ _ _ _ => pts_nil) (fun _ _ _ _ => (pe_call G_law_cost (hr.mono (by decide)) rfl T.m_law_cost T.F_law_cost.kp T.b_law_cost .nil passE0 (pa_cons (pv 1) (pa_cons (pe_slice (sllK (K := K) rfl) (pv 3) (po_some (pv 0)) (po_some (pe_op op_add (pv 5) pe_int))) (pa_cons (pe_slice (sllK (K := K) rfl) (pv 4) (po_some (pv 0)) (po_some (pe_op op_add (pv 5) pe_int))) (pa_cons (pv 2) pa_nil))))))) pa_nil)))))
      (pss_cons (ps_if (PW.pt (pw_or (pt_not (pt_val (pe_call G_law_is_low (hr.mono (by decide)) rfl T.m_law_is_low T.F_law_is_low.kp T.b_law_is_low .nil passE0 (pa_cons (pv 6) (pa_cons (pv 13) (pa_cons (pv 11) pa_nil)))))) (pw_or1 (pt_cmpR (neK (K := K) rfl hr.units) (pe_call G_step_least (hr.mono (by decide)) rfl T.m_step_least T.F_step_least.kp T.b_step_least .nil passE0 (pa_cons (pv 6) (pa_cons (pe_callTy (listK (K := K) rfl) rfl T.n_list bt_list (pa_cons (pv 5) pa_nil)) (pa_cons (pv 7) pa_nil)))) (pv 9) (nomark _))))) (pss_one (ps_ret pe_bl)) pss_nil)
      (pss_cons (ps_set (i := 15) sc_law.nd rfl (Or.inl rfl) (pe_tup (pa_cons (pe_callTy (listK (K := K) rfl) rfl T.n_list bt_list (pa_cons (pv 10) pa_nil)) (pa_cons (pe_lc (cap := [none]) (NC := ["entries"]) rfl ⟨rfl, rfl, by decide +kernel, by decide +kernel, trivial, (fun _ h => nomatch h), rfl⟩ (pilK (K := K) rfl (pv 11)) (fun _ _ _ _ => (pg_name (i := 0) (show List.Nodup (["entries"] : List Str) by decide) rfl (Or.inl rfl))) (fun _ _ _ _ => pts_nil) (fun _ _ _ _ => (pe_callTy (listK (K := K) rfl) rfl T.n_list bt_list (pa_cons (pv 0) pa_nil)))) pa_nil))))
      (pss_cons (ps_setLC (i := 16) (cap := [none]) (NC := ["entries"]) sc_law.nd rfl rfl rfl ⟨rfl, rfl, by decide +kernel, by decide +kernel, trivial, (fun _ h => nomatch h), rfl⟩ (pilK (K := K) rfl (pv 11)) (fun _ _ _ _ => (pg_name (i := 0) (show List.Nodup (["entries"] : List Str) by decide) rfl (Or.inl rfl))) (fun _ _ _ _ => pts_nil) (fun _ _ _ _ => (pe_callTy (listK (K := K) rfl) rfl T.n_list bt_list (pa_cons (pv 0) pa_nil))))
      (pss_cons (ps_set (i := 17) sc_law.nd rfl (Or.inl rfl) (pe_op op_mod (pe_call G_law_cell (hr.mono (by decide)) rfl T.m_law_cell T.F_law_cell.kp T.b_law_cell .nil passE0 (pa_cons (pv 0) (pa_cons pe_int pa_nil))) (pe_op op_add (pv 7) pe_int)))
      (pss_cons (ps_expr (pe_bm PySem.F.plainAttrs_list PySem.F.slot_list_append PySem.F.type_list_append mt_append (pe_ix (ixlK (K := K) rfl) (pv 11) (pv 17) (fun _ _ => rfl)) (pa_cons (pe_tup (pa_cons pe_int (pa_cons pe_int pa_nil))) pa_nil)))
      (pss_cons (ps_expr (pe_bm PySem.F.plainAttrs_list PySem.F.slot_list_append PySem.F.type_list_append mt_append (pv 10) (pa_cons (pe_tup (pa_cons pe_int (pa_cons pe_int pa_nil))) pa_nil)))
      (pss_cons (ps_expr (pe_bm PySem.F.plainAttrs_list PySem.F.slot_list_append PySem.F.type_list_append mt_append (pe_ix (ixlK (K := K) rfl) (pv 16) (pv 17) (fun _ _ => rfl)) (pa_cons (pe_tup (pa_cons pe_int (pa_cons pe_int pa_nil))) pa_nil)))
      (pss_cons (ps_if (pt_cmpR (neK (K := K) rfl hr.units) (pv 11) (pv 16) (nomark _)) (pss_one (ps_ret pe_bl)) pss_nil)
      (pss_cons (ps_expr (pe_bm0 PySem.F.plainAttrs_list PySem.F.slot_list_pop PySem.F.type_list_pop mt_pop (pv 11)))
      (pss_one (ps_ret (pe_cmpR (eqK (K := K) rfl hr.units) (pe_call G_step_least (hr.mono (by decide)) rfl T.m_step_least T.F_step_least.kp T.b_step_least .nil passE0 (pa_cons (pv 6) (pa_cons (pe_callTy (listK (K := K) rfl) rfl T.n_list bt_list (pa_cons (pv 5) pa_nil)) (pa_cons (pv 7) pa_nil)))) (pv 15) (nomark _)))))))))))))))))))))))))))))), _, (sv_seq (sv_asg (ev_op ro_i0 (bv_ev ev_int) (bv_ev (ev_mdk (k := 6) (by decide) (bv_ev (ev_call0 (av_cons (bv_var 0) (av_cons (bv_ev ev_int) av_nil)))) ev_int))) (gv_name 1))
      (sv_cut (sv_if (tv_test (bv_ev (ev_op ro_eq (bv_ev (ev_mdk (k := 16) (by decide) (bv_ev (ev_dvk (k := 648) (cdiv (by decide +kernel)) (bv_ev (ev_call0 (av_cons (bv_var 0) (av_cons (bv_ev ev_int) av_nil)))) ev_int)) ev_int)) (bv_ev ev_int)))) (sv_asg ev_int (gv_name 1)) sv_next)
      (sv_seq (sv_setO 2 (ov_call0 (av_cons (bv_var 0) (av_cons (bv_var 1) av_nil))))
      (sv_seq (sv_setO 3 (ov_call0 (av_cons (bv_var 0) (av_cons (bv_var 1) av_nil))))
      (sv_seq (sv_asg (ev_call0 (av_cons (bv_var 0) av_nil)) (gv_name 4))
      (sv_seq (sv_setO 5 (ov_call0 (av_cons (bv_var 0) (av_cons (bv_var 2) (av_cons (bv_var 3) (av_cons (bv_var 4) av_nil))))))
      (sv_seq (sv_asg (ev_ixl (lv_ov (ov_lst (ae_cons ev_str (ae_cons ev_str (ae_cons ev_str ae_nil))) (by decide))) (bv_ev (ev_mdk (k := 3) (by decide) (bv_ev (ev_dvk (k := 6) (cdiv (by decide +kernel)) (bv_ev (ev_call0 (av_cons (bv_var 0) (av_cons (bv_ev ev_int) av_nil)))) ev_int)) ev_int))) (gv_name 6))
      (sv_seq (sv_asg (ev_call0 (av_cons (bv_var 0) (av_cons (bv_var 1) av_nil))) (gv_name 7))
      (sv_seq (sv_setO 8 (ov_list (lv_var 5)))
      (sv_frzK 5 (sv_frz 2 (sv_frz 3 (sv_frz 8 (sv_callFz 9 (av_cons (bv_var 6) (av_cons (bv_var 8) (av_cons (bv_var 7) av_nil))) (fun as_ as0_ =>
      (sv_seq (sv_if (tv_or (tv_test (bv_ev (ev_op ro_neD (bv_var 8) (bv_ev (ev_fz 5))))) (tv_or (tv_not (tv_b (bv_ev (ev_isi (by decide) (bv_ev (ev_fz 9)))))) (tv_test (bv_ev (ev_op ro_ne (bv_ev (ev_cb rb_len (av_cons (bv_ev (ev_fz 9)) av_nil))) (bv_ev ev_int)))))) (sv_ret (bv_ev ev_bl)) sv_next)
      (sv_seq (sv_unpG 9 10 11)
      (sv_seq (sv_if (tv_or (tv_not (tv_b (bv_ev (ev_call0 (av_cons (bv_ev (ev_fz 10)) (av_cons (bv_var 1) av_nil)))))) (tv_or (tv_test (bv_ev (ev_op ro_b0 (bv_ev (ev_call0 (av_cons (bv_ev (ev_fz 10)) av_nil))) (bv_var 7)))) (tv_or (tv_not (tv_b (bv_ev (ev_isi (by decide) (bv_ev (ev_fz 11)))))) (tv_test (bv_ev (ev_op ro_ne (bv_ev (ev_cb rb_len (av_cons (bv_ev (ev_fz 11)) av_nil))) (bv_ev (ev_op ro_i0 (bv_var 7) (bv_ev ev_int))))))))) (sv_ret (bv_ev ev_bl)) sv_next)
      (sv_seq (sv_for (is_list (ev_fz 11)) (gv_name 12)
        (sv_if (tv_not (tv_b (bv_ev (ev_call0 (av_cons (bv_var 12) (av_cons (bv_var 1) av_nil)))))) (sv_ret (bv_ev ev_bl)) sv_next))
      (sv_seq (sv_if (tv_test (bv_ev (ev_op ro_neD (bv_ev (ev_ixl (lv_ev (ev_ixl (lv_ev (ev_fz 11)) (bv_var 7))) (bv_ev (ev_op ro_i0 (bv_var 1) (bv_ev ev_int))))) (bv_ev (ev_call0 (av_cons (bv_var 6) (av_cons (bv_ev (ev_fz 5)) (av_cons (bv_ev (ev_fz 10)) av_nil)))))))) (sv_ret (bv_ev ev_bl)) sv_next)
      (sv_seq (sv_setO 13 (ov_lst ae_nil (by decide)))
      (sv_seq (sv_for (is_rng1 (av_cons (bv_var 1) av_nil)) (gv_name 14)
        (sv_app 13 (ev_ov (ov_lc (IvS.e (is_rng1 (av_cons (bv_ev (ev_op ro_i0 (bv_var 14) (bv_ev ev_int))) av_nil))) (gv_name 0) tv_yes (ev_call0 (av_cons (bv_var 1) (av_cons (bv_ev (ev_ov (ov_sl (lv_var 3) (op_part (bv_var 0)) (op_part (bv_ev (ev_op ro_i0 (bv_var 5) (bv_ev ev_int))))))) (av_cons (bv_ev (ev_ov (ov_sl (lv_var 4) (op_part (bv_var 0)) (op_part (bv_ev (ev_op ro_i0 (bv_var 5) (bv_ev ev_int))))))) (av_cons (bv_var 2) av_nil))))) (by decide) (by decide)))))
      (sv_seq (sv_if (tv_or (tv_not (tv_b (bv_ev (ev_call0 (av_cons (bv_var 6) (av_cons (bv_var 13) (av_cons (bv_ev (ev_fz 11)) av_nil))))))) (tv_test (bv_ev (ev_op ro_neD (bv_call0 (av_cons (bv_var 6) (av_cons (bv_ev (ev_ov (ov_list (lv_ev (ev_fz 5))))) (av_cons (bv_var 7) av_nil)))) (bv_ev (ev_fz 9)))))) (sv_ret (bv_ev ev_bl)) sv_next)
      (sv_fin as0_ 9 10 11 15 16 17 [false, false, false, false, false, true, true, true, false, false, false, false, false, false, false, false, false, false] (by decide) (ov_list (lv_ev (ev_fz 10))) (gr_lc (ie_list (lv_ev (ev_fz 11))) (gv_name 0) (ov_list (lv_var 0)) (by decide) (by decide))
      (gr_lc (ie_list (lv_ev (ev_fz 11))) (gv_name 0) (ov_list (lv_var 0)) (by decide) (by decide))
      (ev_op ro_i (bv_ev (ev_call0 (av_cons (bv_var 0) (av_cons (bv_ev ev_int) av_nil)))) (bv_ev (ev_op ro_i0 (bv_var 7) (bv_ev ev_int)))) (ev_tup (ae_cons ev_int (ae_cons ev_int ae_nil)) (by decide))
      (sv_ret (bv_ev (ev_op ro_eqD (bv_call0 (av_cons (bv_var 6) (av_cons (bv_ev (ev_ov (ov_list (lv_ev (ev_fz 5))))) (av_cons (bv_var 7) av_nil)))) (bv_var 15)))))))))))))))))))))))))))), ?_⟩
  rintro ds Q X ⟨ns, rfl, hlen, hbits, k⟩
  walk_at "s"
  refine ⟨ns, 0, rfl, by decide, by decide, ?_⟩
  walk_at "d"
  obtain ⟨n0, hn0, n01, n06⟩ : ∃ n : Nat, 1 + cellF ns 0 % 6 = (n : Int) ∧ 1 ≤ n ∧ n ≤ 6 := ⟨(1 + cellF ns 0 % 6).toNat, by omega, by omega, by omega⟩
  rw [hn0]
  clear hn0
  refine cut_mk (fun δ => ∃ n : Nat, δ = [some (.dat (.list (ns.map .int))), some (.dat (.int (n : Int))), none, none, none, none, none, none, none, none, none, none, none, none, none, none, none, none] ∧ 1 ≤ n ∧ n ≤ 12) ?_ ?_
  · walk_at "d"
    refine ⟨ns, 0, rfl, by decide, by decide, ?_⟩
    walk_at "d"
    refine ite2 (fun _ => ?_) (fun _ => ?_)
    · walk_at "d"
      exact ⟨12, rfl, by decide, by decide⟩
    · walk_at "d"
      exact ⟨n0, rfl, n01, by omega⟩
  rintro δ ⟨n, rfl, n1, n12⟩
  walk_at "s"
  refine ⟨ns, n, rfl, n1, n12, hbits, fun hs hl hh => ?_⟩
  walk_at "d"
  refine ⟨ints_flat _, ?_⟩
  walk_at "s"
  refine ⟨ns, n, rfl, n1, n12, hbits, fun ws wl hw => ?_⟩
  walk_at "d"
  refine ⟨ints_flat _, ?_⟩
  walk_at "s"
  refine ⟨ns, rfl, hbits, fun b b1 b2 => ?_⟩
  walk_at "d"
  walk_at "s"
  refine ⟨ns, hs, ws, b, rfl, by omega, by omega, b1, b2, hbits, fun ms hm => ?_⟩
  obtain ⟨M, ml⟩ := mks_of hm (by omega) (by omega) (by omega) hh hw b1 b2
  walk_at "d"
  refine ⟨mks_flat _, ?_⟩
  walk_at "s"
  refine ⟨ns, 0, rfl, by decide, by decide, ?_⟩
  walk_at "d"
  obtain ⟨kd, hkd, ak⟩ : ∃ kd : Str, kd ∈ kdsL ∧ atI [PyData.str "far", PyData.str "sum", PyData.str "square"] (cellF ns 0 / 6 % 3) = some (.str kd) := by
    have h3 : cellF ns 0 / 6 % 3 = 0 ∨ cellF ns 0 / 6 % 3 = 1 ∨ cellF ns 0 / 6 % 3 = 2 := by omega
    rcases h3 with e | e | e <;> rw [e]
    · exact ⟨"far", by simp [kdsL], rfl⟩
    · exact ⟨"sum", by simp [kdsL], rfl⟩
    · exact ⟨"square", by simp [kdsL], rfl⟩
  refine ⟨_, ak, ?_⟩
  walk_at "s"
  refine ⟨ns, n, rfl, fun kk k59 => ?_⟩
  walk_at "d"
  have hw1 : ∀ m ∈ ms, 1 ≤ m.2.2 := fun m h => (M.hw m h).1
  have M1 := M.n1
  have hcost : ∀ f l, f ≤ l → l < ms.length → Dg 75 (cF kd (strch ms f l)) := fun f l h1 h2 => M.cost hkd h1 h2
  walk_at "s"
  walk_at "d"
  intro mm
  refine ⟨kd, ms, b.toNat, kk, 75, rfl, hkd, M.c, k59, hcost, by omega, fun hx row hL as => ?_⟩
  obtain ⟨r1, ⟨x1, r2⟩, r3⟩ := hL.is hkd hw1 (by omega)
  rw [show ms.length - 1 + 1 = ms.length by omega] at r1 r3
  rw [List.take_length] at r3
  have r4 : ∀ q ∈ row, Dg 31 q := hL.dg M hkd (by omega)
  have rc := (fw_cnt r2).1
  have tok := tblF_ok (k := kk + 1) hkd M
  have tln : (tblF kd ms (kk + 1)).length = kk + 1 := by simp [tblF]
  have tlow : lowTab kd (costC kd ms) (tblF kd ms (kk + 1)) = true := tab_lowT (kk + 1)
  have tlast : (tblF kd ms (kk + 1)).getD kk [] = entL kd ms (kk + 1) := by simp [tblF, List.getD]
  rw [tblF_is]
  obtain ⟨tbl, htb⟩ : ∃ tbl, tblF kd ms (kk + 1) = tbl := ⟨_, rfl⟩
  rw [htb] at tok tln tlow tlast ⊢
  walk_at "d"
  intro l3 hdis
  have hmm : mm ∉ as := hdis 5 mm _ rfl
  clear hdis
  walk_at "s"
  refine ⟨List Mk, eList eMark (by decide), ms, ms, rfl, rfl, fun bb hb => ?_⟩
  rw [hb.mpr rfl]
  walk_at "d"
  rw [if_neg (by decide), if_neg (by decide)]
  walk_at "s"
  refine ⟨l3, ?_⟩
  walk_at "s"
  refine ⟨row, n, rfl, by omega, by omega, fun q hq => (r4 q hq).mono (by decide), ?_⟩
  walk_at "d"
  refine ⟨row, rfl, by omega, by omega, ?_⟩
  walk_at "d"
  refine ite2 (fun c => absurd c (by omega)) (fun _ => ?_)
  refine ite2 (fun c => absurd c (by decide)) (fun _ => ?_)
  refine ite2 (fun c => absurd c (by omega)) (fun _ => ?_)
  refine seq_mk (for_map (fun r : List Rat => PyData.list (r.map fr)) tbl (fun Q h => by walk_at "d"; exact h)
    (fun i δ => ∃ s12 : Option Sl, δ = [some (.dat (.list (ns.map .int))), some (.dat (.int (n : Int))), some (.dat (.list (hs.map .int))), some (.dat (.list (ws.map .int))), some (.dat (.int b)), some (.fz [mm] (.list (ms.map mk3))), some (.dat (.str kd)), some (.dat (.int (kk : Int))), some (.dat (.list (ms.map mk3))), some (.fz as (.tuple [.list (row.map fr), .list (tbl.map rowD)])), some (.fz (rwA as) (.list (row.map fr))), some (.fz (tbA as) (.list (tbl.map rowD))), s12, none, none, none, none, none]) ⟨none, rfl⟩ ?_ ?_)
  · rintro i r δ hi ⟨s12, rfl⟩
    have tr := tok r (List.mem_of_getElem? hi)
    walk_at "d"
    refine ⟨r, n, rfl, by omega, by omega, fun q hq => (tr.2 q hq).mono (by decide), ?_⟩
    walk_at "d"
    exact ⟨_, rfl⟩
  rintro δ ⟨s12, rfl⟩
  have hmis : ∀ m ∈ ms, Dg 19 m.2.1 ∧ 1 ≤ m.2.2 ∧ m.2.2.natAbs ≤ 10 ^ 9 := fun m h => ⟨((M.hc m h).dg M.L0 M.L1 (Nat.le_refl _)).mono (by decide), (M.hw m h).1, by have := M.hw m h; omega⟩
  walk_at "s"
  refine ⟨_, rows_at (tbl := tbl) (j := kk) rfl (by omega), ?_⟩
  dsimp only
  refine ⟨_, atI_fr (j := n - 1) (by omega) (by rw [tlast]; simp [entL]; omega), ?_⟩
  refine ⟨kd, ms, row, 19, 31, 9, rfl, hkd, by omega, by omega, hmis, r4, by omega, ?_⟩
  walk_at "d"
  refine ⟨Rat, eRat, _, _, rfl, rfl, fun bb hb => ?_⟩
  rw [hb.mpr (by rw [tlast, entL_at (by omega), r3, show n - 1 = ms.length - 1 by omega])]
  walk_at "d"
  walk_at "s"
  have Cl : (costC kd ms).length = ms.length := by simp [costC]
  have hC := cs_ok hkd M (by omega)
  refine seq_mk (for_rng (lo := 0) (st := 1) (n := n) (fun Q h => by
      walk_at "d"
      refine ⟨by omega, ?_⟩
      rw [Int.toNat_natCast]; exact h)
    (fun i δ => ∃ s14 : Option Sl, δ = [some (.dat (.list (ns.map .int))), some (.dat (.int (n : Int))), some (.dat (.list (hs.map .int))), some (.dat (.list (ws.map .int))), some (.dat (.int b)), some (.fz [mm] (.list (ms.map mk3))), some (.dat (.str kd)), some (.dat (.int (kk : Int))), some (.dat (.list (ms.map mk3))), some (.fz as (.tuple [.list (row.map fr), .list (tbl.map rowD)])), some (.fz (rwA as) (.list (row.map fr))), some (.fz (tbA as) (.list (tbl.map rowD))), s12, some (.own (((costC kd ms).take i).map rowD)), s14, none, none, none]) ⟨none, rfl⟩ ?_ ?_)
  · rintro i δ hi ⟨s14, rfl⟩
    rw [show (0 : Int) + (i : Int) * 1 = (i : Int) by omega]
    walk_at "d"
    refine lc_map (fun f : Nat => PyData.int (0 + (f : Int) * 1)) fr (fun f : Nat => [cF kd (strch ms f i)]) (List.range (i + 1)) (by rw [List.length_range]; omega) (fun Q h => by
        walk_at "d"
        have e : ((i : Int) + 1).toNat = i + 1 := by omega
        rw [e]
        exact ⟨by omega, h⟩) (fun f hf N acc hN => ?_) ?_
    · have hf2 : f ≤ i := by have := List.mem_range.mp hf; omega
      rw [show (0 : Int) + (f : Int) * 1 = (f : Int) by omega]
      walk_at "d"
      rw [cut_str hf2 (by omega), cut_str hf2 (by omega)]
      refine ⟨kd, strI hs f i, strI ws f i, b, rfl, hkd, fun e => ?_, ?_, ?_, fun h z => by have h1 : h.natAbs ≤ 10 ^ 12 := hh h (strI_mem z); omega, fun v z => hw v (strI_mem z), b1, b2, fun q hq => ?_⟩
      · have := strI_len (xs := hs) (f := f) (l := i) (by omega)
        rw [e, List.length_nil] at this
        omega
      · rw [strI_len (by omega)]; omega
      · rw [strI_len (by omega), strI_len (by omega)]
      have eq := due_cF hkd hm (by omega) (by omega) b1 hw1 hf2 (by omega) hq
      rw [eq]
      walk_at "d"
      exact hN
    rw [flat_single]
    have e2 : (costC kd ms)[i]? = some (costL kd ms i) := by
      have : i < ms.length := by omega
      simp [costC, this]
    refine ⟨by rw [List.length_take]; omega, some (.dat (.int (i : Int))), ?_⟩
    rw [take_one e2, List.map_append]
    rfl
  rintro δ ⟨s14, rfl⟩
  rw [List.take_of_length_le (by omega)]
  walk_at "s"
  refine ⟨kd, costC kd ms, tbl, 912, rfl, hC, fun r h => ⟨by rw [(tok r h).1]; omega, (tok r h).2⟩, by decide, ?_⟩
  rw [tlow]
  walk_at "d"
  refine ⟨kd, ms, b.toNat, kk, 75, rfl, hkd, M.c, k59, hcost, by omega, fun _ row2 hL2 as2 => ?_⟩
  have er := laid_uniq hkd hw1 hL hL2
  rw [er, tblF_is, htb]
  walk_at "d"
  refine ⟨_, eT2 (eList eRat (by decide)) (eList (eList eRat (by decide)) (by decide)) (by decide) (by decide), (row, tbl), (row, tbl), rfl, rfl, fun bb hb => ?_⟩
  rw [hb.mpr rfl]
  walk_at "d"
  have e0 : (tbl.map fun r => r.map fr).map PyData.list = tbl.map rowD := by rw [List.map_map]; rfl
  have fl0 : ∀ d ∈ tbl.map (fun r => r.map fr), flatDs d = true := fun d hd => by
    obtain ⟨r, _, rfl⟩ := List.mem_map.mp hd
    exact frs_flat _
  refine ⟨row.map fr, tbl.map (fun r => r.map fr), _, rfl, rfl, by rw [e0], ⟨_, _, rfl⟩, l3, by rw [List.length_map]; omega, fl0, ⟨hmm, mks_flat _⟩, by decide, by decide, by decide, frs_flat _, ?_⟩
  refine glc_map (fun r : List Rat => PyData.list (r.map fr)) (fun r => r.map fr) tbl (by omega) (fun Q h => by walk_at "d"; exact h) (fun r hr N hN => by walk_at "d"; exact hN) ?_
  refine ⟨fl0, ?_⟩
  refine glc_map (fun r : List Rat => PyData.list (r.map fr)) (fun r => r.map fr) tbl (by omega) (fun Q h => by walk_at "d"; exact h) (fun r hr N hN => by walk_at "d"; exact hN) ?_
  refine ⟨fl0, ?_⟩
  walk_at "d"
  refine ⟨ns, 17, rfl, by decide, by decide, ?_⟩
  walk_at "d"
  refine ⟨by omega, ?_⟩
  obtain ⟨jj, hjj, jl⟩ : ∃ jj : Nat, cellF ns 17 % ((kk : Int) + 1) = (jj : Int) ∧ jj < tbl.length := by
    have e0 := Int.emod_nonneg (cellF ns 17) (show (kk : Int) + 1 ≠ 0 by omega)
    have e1 := Int.emod_lt_of_pos (cellF ns 17) (show (0 : Int) < (kk : Int) + 1 by omega)
    exact ⟨(cellF ns 17 % ((kk : Int) + 1)).toNat, by omega, by omega⟩
  rw [hjj]
  have gj : tbl[jj]? = some (tbl.getD jj []) := by simp [List.getD, jl]
  have lj : (tbl.getD jj []).length ≤ 12 := by
    have := (tok _ (List.mem_of_getElem? gj)).1
    omega
  have aj : (tbl.map fun r => r.map fr)[jj]? = some ((tbl.getD jj []).map fr) := by rw [List.getElem?_map, gj]; rfl
  have hhf : fr (Rat.divInt 1 2) = PyData.tuple [.int 1, .int 2] := by
    show PyData.tuple [.int (Rat.divInt 1 2).num, .int ((Rat.divInt 1 2).den : Int)] = _
    rw [show (Rat.divInt 1 2).num = 1 by decide, show (Rat.divInt 1 2).den = 2 by decide]
    rfl
  have esc : ((tbl.map fun r => r.map fr).set jj ((tbl.getD jj []).map fr ++ [PyData.tuple [.int 1, .int 2]])).map PyData.list = (tbl.set jj (tbl.getD jj [] ++ [Rat.divInt 1 2])).map rowD := by
    rw [← hhf, List.map_set, e0, List.map_set]
    congr 1
    show PyData.list _ = PyData.list _
    rw [List.map_append]
    rfl
  refine ⟨(jj : Int), jj, (tbl.getD jj []).map fr, (tbl.getD jj []).map fr, rfl, ixN_nat' rfl jl, aj, aj, by rw [List.length_map]; omega, by rw [List.length_map]; omega, ?_⟩
  rw [esc]
  refine ⟨List (List Rat), eList (eList eRat (by decide)) (by decide), tbl.set jj (tbl.getD jj [] ++ [Rat.divInt 1 2]), tbl.set jj (tbl.getD jj [] ++ [Rat.divInt 1 2]), rfl, rfl, fun bb hb => ?_⟩
  rw [hb.mpr rfl, e0]
  walk_at "d"
  refine ⟨false, rfl, ?_⟩
  rw [if_neg (by decide)]
  refine ⟨kd, ms, b.toNat, kk, 75, rfl, hkd, M.c, k59, hcost, by omega, fun _ row3 hL3 as3 => ?_⟩
  rw [laid_uniq hkd hw1 hL hL3, tblF_is, htb]
  walk_at "d"
  refine ⟨_, eT2 (eList eRat (by decide)) (eList (eList eRat (by decide)) (by decide)) (by decide) (by decide), (row, tbl), (row, tbl), rfl, rfl, fun bb hb => ?_⟩
  rw [hb.mpr rfl]
  exact k
end
theorem all_mk {l : PySem.W.OpenLaw} {w : World} {K : PySem.W.Frag} {h : Heap} {mg : Str → Option Value} {fa f_common_divisor f_fraction f_plus f_minus f_product f_quotient f_is_less f_size_of f_total_of f_greatest_of f_least_of f_misses_of f_check_kind f_weighed_misses f_measured f_least_level f_middle_of f_in_order f_stretch_cost f_joined f_costs_to f_all_costs f_is_above f_step_least f_best_entry f_laid_row f_law_cell f_law_lowest f_law_whole f_law_fraction f_law_heights f_law_weights f_law_bottom f_law_marks f_law_cost f_law_less f_law_joined f_law_missed f_law_row f_law_steps f_law_is_low f_law_many_steps f_law x_NoNumber x_NoKind g_KINDS g_NOUGHT : Addr} (X : K.In h) (G : h.Ns mainGlobals mg) (hfa : mg "law" = some (.ref fa))
    {od0 an0 : Option Addr} {sl0 : Array (Option Value)} {oc0 kV0 dc0 pm0 cd0 ct0 : Value}
    {od1 an1 : Option Addr} {sl1 : Array (Option Value)} {oc1 kV1 dc1 pm1 cd1 ct1 : Value}
    {od2 an2 : Option Addr} {sl2 : Array (Option Value)} {oc2 kV2 dc2 pm2 cd2 ct2 : Value}
    {od3 an3 : Option Addr} {sl3 : Array (Option Value)} {oc3 kV3 dc3 pm3 cd3 ct3 : Value}
    {od4 an4 : Option Addr} {sl4 : Array (Option Value)} {oc4 kV4 dc4 pm4 cd4 ct4 : Value}
    {od5 an5 : Option Addr} {sl5 : Array (Option Value)} {oc5 kV5 dc5 pm5 cd5 ct5 : Value}
    {od6 an6 : Option Addr} {sl6 : Array (Option Value)} {oc6 kV6 dc6 pm6 cd6 ct6 : Value}
    {od7 an7 : Option Addr} {sl7 : Array (Option Value)} {oc7 kV7 dc7 pm7 cd7 ct7 : Value}
    {od8 an8 : Option Addr} {sl8 : Array (Option Value)} {oc8 kV8 dc8 pm8 cd8 ct8 : Value}
    {od9 an9 : Option Addr} {sl9 : Array (Option Value)} {oc9 kV9 dc9 pm9 cd9 ct9 : Value}
    {od10 an10 : Option Addr} {sl10 : Array (Option Value)} {oc10 kV10 dc10 pm10 cd10 ct10 : Value}
    {od11 an11 : Option Addr} {sl11 : Array (Option Value)} {oc11 kV11 dc11 pm11 cd11 ct11 : Value}
    {od12 an12 : Option Addr} {sl12 : Array (Option Value)} {oc12 kV12 dc12 pm12 cd12 ct12 : Value}
    {od13 an13 : Option Addr} {sl13 : Array (Option Value)} {oc13 kV13 dc13 pm13 cd13 ct13 : Value}
    {od14 an14 : Option Addr} {sl14 : Array (Option Value)} {oc14 kV14 dc14 pm14 cd14 ct14 : Value}
    {od15 an15 : Option Addr} {sl15 : Array (Option Value)} {oc15 kV15 dc15 pm15 cd15 ct15 : Value}
    {od16 an16 : Option Addr} {sl16 : Array (Option Value)} {oc16 kV16 dc16 pm16 cd16 ct16 : Value}
    {od17 an17 : Option Addr} {sl17 : Array (Option Value)} {oc17 kV17 dc17 pm17 cd17 ct17 : Value}
    {od18 an18 : Option Addr} {sl18 : Array (Option Value)} {oc18 kV18 dc18 pm18 cd18 ct18 : Value}
    {od19 an19 : Option Addr} {sl19 : Array (Option Value)} {oc19 kV19 dc19 pm19 cd19 ct19 : Value}
    {od20 an20 : Option Addr} {sl20 : Array (Option Value)} {oc20 kV20 dc20 pm20 cd20 ct20 : Value}
    {od21 an21 : Option Addr} {sl21 : Array (Option Value)} {oc21 kV21 dc21 pm21 cd21 ct21 : Value}
    {od22 an22 : Option Addr} {sl22 : Array (Option Value)} {oc22 kV22 dc22 pm22 cd22 ct22 : Value}
    {od23 an23 : Option Addr} {sl23 : Array (Option Value)} {oc23 kV23 dc23 pm23 cd23 ct23 : Value}
    {od24 an24 : Option Addr} {sl24 : Array (Option Value)} {oc24 kV24 dc24 pm24 cd24 ct24 : Value}
    {od25 an25 : Option Addr} {sl25 : Array (Option Value)} {oc25 kV25 dc25 pm25 cd25 ct25 : Value}
    {od26 an26 : Option Addr} {sl26 : Array (Option Value)} {oc26 kV26 dc26 pm26 cd26 ct26 : Value}
    {od27 an27 : Option Addr} {sl27 : Array (Option Value)} {oc27 kV27 dc27 pm27 cd27 ct27 : Value}
    {od28 an28 : Option Addr} {sl28 : Array (Option Value)} {oc28 kV28 dc28 pm28 cd28 ct28 : Value}
    {od29 an29 : Option Addr} {sl29 : Array (Option Value)} {oc29 kV29 dc29 pm29 cd29 ct29 : Value}
    {od30 an30 : Option Addr} {sl30 : Array (Option Value)} {oc30 kV30 dc30 pm30 cd30 ct30 : Value}
    {od31 an31 : Option Addr} {sl31 : Array (Option Value)} {oc31 kV31 dc31 pm31 cd31 ct31 : Value}
    {od32 an32 : Option Addr} {sl32 : Array (Option Value)} {oc32 kV32 dc32 pm32 cd32 ct32 : Value}
    {od33 an33 : Option Addr} {sl33 : Array (Option Value)} {oc33 kV33 dc33 pm33 cd33 ct33 : Value}
    {od34 an34 : Option Addr} {sl34 : Array (Option Value)} {oc34 kV34 dc34 pm34 cd34 ct34 : Value}
    {od35 an35 : Option Addr} {sl35 : Array (Option Value)} {oc35 kV35 dc35 pm35 cd35 ct35 : Value}
    {od36 an36 : Option Addr} {sl36 : Array (Option Value)} {oc36 kV36 dc36 pm36 cd36 ct36 : Value}
    {od37 an37 : Option Addr} {sl37 : Array (Option Value)} {oc37 kV37 dc37 pm37 cd37 ct37 : Value}
    {od38 an38 : Option Addr} {sl38 : Array (Option Value)} {oc38 kV38 dc38 pm38 cd38 ct38 : Value}
    {od39 an39 : Option Addr} {sl39 : Array (Option Value)} {oc39 kV39 dc39 pm39 cd39 ct39 : Value}
    {od40 an40 : Option Addr} {sl40 : Array (Option Value)} {oc40 kV40 dc40 pm40 cd40 ct40 : Value}
    {od41 an41 : Option Addr} {sl41 : Array (Option Value)} {oc41 kV41 dc41 pm41 cd41 ct41 : Value}
    {od42 an42 : Option Addr} {sl42 : Array (Option Value)} {oc42 kV42 dc42 pm42 cd42 ct42 : Value}
    (a0 : PySem.W.nsIn K mainGlobals "common_divisor" = some (some (.ref f_common_divisor))) (l0 : K.lookup f_common_divisor = some ⟨oc0, od0, .func (PySem.W.fnOf "common_divisor" "common_divisor" (defArgs s_common_divisor) (defBody s_common_divisor) (defScope s_common_divisor) .none kV0 dc0 pm0 an0 cd0 ct0), sl0⟩) (c0 : PySem.W.codeIn K cd0 "common_divisor" = true) (k0 : PySem.W.keepIn K (.ref f_common_divisor) = true)
    (a1 : PySem.W.nsIn K mainGlobals "fraction" = some (some (.ref f_fraction))) (l1 : K.lookup f_fraction = some ⟨oc1, od1, .func (PySem.W.fnOf "fraction" "fraction" (defArgs s_fraction) (defBody s_fraction) (defScope s_fraction) .none kV1 dc1 pm1 an1 cd1 ct1), sl1⟩) (c1 : PySem.W.codeIn K cd1 "fraction" = true) (k1 : PySem.W.keepIn K (.ref f_fraction) = true)
    (a2 : PySem.W.nsIn K mainGlobals "plus" = some (some (.ref f_plus))) (l2 : K.lookup f_plus = some ⟨oc2, od2, .func (PySem.W.fnOf "plus" "plus" (defArgs s_plus) (defBody s_plus) (defScope s_plus) .none kV2 dc2 pm2 an2 cd2 ct2), sl2⟩) (c2 : PySem.W.codeIn K cd2 "plus" = true) (k2 : PySem.W.keepIn K (.ref f_plus) = true)
    (a3 : PySem.W.nsIn K mainGlobals "minus" = some (some (.ref f_minus))) (l3 : K.lookup f_minus = some ⟨oc3, od3, .func (PySem.W.fnOf "minus" "minus" (defArgs s_minus) (defBody s_minus) (defScope s_minus) .none kV3 dc3 pm3 an3 cd3 ct3), sl3⟩) (c3 : PySem.W.codeIn K cd3 "minus" = true) (k3 : PySem.W.keepIn K (.ref f_minus) = true)
    (a4 : PySem.W.nsIn K mainGlobals "product" = some (some (.ref f_product))) (l4 : K.lookup f_product = some ⟨oc4, od4, .func (PySem.W.fnOf "product" "product" (defArgs s_product) (defBody s_product) (defScope s_product) .none kV4 dc4 pm4 an4 cd4 ct4), sl4⟩) (c4 : PySem.W.codeIn K cd4 "product" = true) (k4 : PySem.W.keepIn K (.ref f_product) = true)
    (a5 : PySem.W.nsIn K mainGlobals "quotient" = some (some (.ref f_quotient))) (l5 : K.lookup f_quotient = some ⟨oc5, od5, .func (PySem.W.fnOf "quotient" "quotient" (defArgs s_quotient) (defBody s_quotient) (defScope s_quotient) .none kV5 dc5 pm5 an5 cd5 ct5), sl5⟩) (c5 : PySem.W.codeIn K cd5 "quotient" = true) (k5 : PySem.W.keepIn K (.ref f_quotient) = true)
    (a6 : PySem.W.nsIn K mainGlobals "is_less" = some (some (.ref f_is_less))) (l6 : K.lookup f_is_less = some ⟨oc6, od6, .func (PySem.W.fnOf "is_less" "is_less" (defArgs s_is_less) (defBody s_is_less) (defScope s_is_less) .none kV6 dc6 pm6 an6 cd6 ct6), sl6⟩) (c6 : PySem.W.codeIn K cd6 "is_less" = true) (k6 : PySem.W.keepIn K (.ref f_is_less) = true)
    (a7 : PySem.W.nsIn K mainGlobals "size_of" = some (some (.ref f_size_of))) (l7 : K.lookup f_size_of = some ⟨oc7, od7, .func (PySem.W.fnOf "size_of" "size_of" (defArgs s_size_of) (defBody s_size_of) (defScope s_size_of) .none kV7 dc7 pm7 an7 cd7 ct7), sl7⟩) (c7 : PySem.W.codeIn K cd7 "size_of" = true) (k7 : PySem.W.keepIn K (.ref f_size_of) = true)
    (a8 : PySem.W.nsIn K mainGlobals "total_of" = some (some (.ref f_total_of))) (l8 : K.lookup f_total_of = some ⟨oc8, od8, .func (PySem.W.fnOf "total_of" "total_of" (defArgs s_total_of) (defBody s_total_of) (defScope s_total_of) .none kV8 dc8 pm8 an8 cd8 ct8), sl8⟩) (c8 : PySem.W.codeIn K cd8 "total_of" = true) (k8 : PySem.W.keepIn K (.ref f_total_of) = true)
    (a9 : PySem.W.nsIn K mainGlobals "greatest_of" = some (some (.ref f_greatest_of))) (l9 : K.lookup f_greatest_of = some ⟨oc9, od9, .func (PySem.W.fnOf "greatest_of" "greatest_of" (defArgs s_greatest_of) (defBody s_greatest_of) (defScope s_greatest_of) .none kV9 dc9 pm9 an9 cd9 ct9), sl9⟩) (c9 : PySem.W.codeIn K cd9 "greatest_of" = true) (k9 : PySem.W.keepIn K (.ref f_greatest_of) = true)
    (a10 : PySem.W.nsIn K mainGlobals "least_of" = some (some (.ref f_least_of))) (l10 : K.lookup f_least_of = some ⟨oc10, od10, .func (PySem.W.fnOf "least_of" "least_of" (defArgs s_least_of) (defBody s_least_of) (defScope s_least_of) .none kV10 dc10 pm10 an10 cd10 ct10), sl10⟩) (c10 : PySem.W.codeIn K cd10 "least_of" = true) (k10 : PySem.W.keepIn K (.ref f_least_of) = true)
    (a11 : PySem.W.nsIn K mainGlobals "misses_of" = some (some (.ref f_misses_of))) (l11 : K.lookup f_misses_of = some ⟨oc11, od11, .func (PySem.W.fnOf "misses_of" "misses_of" (defArgs s_misses_of) (defBody s_misses_of) (defScope s_misses_of) .none kV11 dc11 pm11 an11 cd11 ct11), sl11⟩) (c11 : PySem.W.codeIn K cd11 "misses_of" = true) (k11 : PySem.W.keepIn K (.ref f_misses_of) = true)
    (a12 : PySem.W.nsIn K mainGlobals "check_kind" = some (some (.ref f_check_kind))) (l12 : K.lookup f_check_kind = some ⟨oc12, od12, .func (PySem.W.fnOf "check_kind" "check_kind" (defArgs s_check_kind) (defBody s_check_kind) (defScope s_check_kind) .none kV12 dc12 pm12 an12 cd12 ct12), sl12⟩) (c12 : PySem.W.codeIn K cd12 "check_kind" = true) (k12 : PySem.W.keepIn K (.ref f_check_kind) = true)
    (a13 : PySem.W.nsIn K mainGlobals "weighed_misses" = some (some (.ref f_weighed_misses))) (l13 : K.lookup f_weighed_misses = some ⟨oc13, od13, .func (PySem.W.fnOf "weighed_misses" "weighed_misses" (defArgs s_weighed_misses) (defBody s_weighed_misses) (defScope s_weighed_misses) .none kV13 dc13 pm13 an13 cd13 ct13), sl13⟩) (c13 : PySem.W.codeIn K cd13 "weighed_misses" = true) (k13 : PySem.W.keepIn K (.ref f_weighed_misses) = true)
    (a14 : PySem.W.nsIn K mainGlobals "measured" = some (some (.ref f_measured))) (l14 : K.lookup f_measured = some ⟨oc14, od14, .func (PySem.W.fnOf "measured" "measured" (defArgs s_measured) (defBody s_measured) (defScope s_measured) .none kV14 dc14 pm14 an14 cd14 ct14), sl14⟩) (c14 : PySem.W.codeIn K cd14 "measured" = true) (k14 : PySem.W.keepIn K (.ref f_measured) = true)
    (a15 : PySem.W.nsIn K mainGlobals "least_level" = some (some (.ref f_least_level))) (l15 : K.lookup f_least_level = some ⟨oc15, od15, .func (PySem.W.fnOf "least_level" "least_level" (defArgs s_least_level) (defBody s_least_level) (defScope s_least_level) .none kV15 dc15 pm15 an15 cd15 ct15), sl15⟩) (c15 : PySem.W.codeIn K cd15 "least_level" = true) (k15 : PySem.W.keepIn K (.ref f_least_level) = true)
    (a16 : PySem.W.nsIn K mainGlobals "middle_of" = some (some (.ref f_middle_of))) (l16 : K.lookup f_middle_of = some ⟨oc16, od16, .func (PySem.W.fnOf "middle_of" "middle_of" (defArgs s_middle_of) (defBody s_middle_of) (defScope s_middle_of) .none kV16 dc16 pm16 an16 cd16 ct16), sl16⟩) (c16 : PySem.W.codeIn K cd16 "middle_of" = true) (k16 : PySem.W.keepIn K (.ref f_middle_of) = true)
    (a17 : PySem.W.nsIn K mainGlobals "in_order" = some (some (.ref f_in_order))) (l17 : K.lookup f_in_order = some ⟨oc17, od17, .func (PySem.W.fnOf "in_order" "in_order" (defArgs s_in_order) (defBody s_in_order) (defScope s_in_order) .none kV17 dc17 pm17 an17 cd17 ct17), sl17⟩) (c17 : PySem.W.codeIn K cd17 "in_order" = true) (k17 : PySem.W.keepIn K (.ref f_in_order) = true)
    (a18 : PySem.W.nsIn K mainGlobals "stretch_cost" = some (some (.ref f_stretch_cost))) (l18 : K.lookup f_stretch_cost = some ⟨oc18, od18, .func (PySem.W.fnOf "stretch_cost" "stretch_cost" (defArgs s_stretch_cost) (defBody s_stretch_cost) (defScope s_stretch_cost) .none kV18 dc18 pm18 an18 cd18 ct18), sl18⟩) (c18 : PySem.W.codeIn K cd18 "stretch_cost" = true) (k18 : PySem.W.keepIn K (.ref f_stretch_cost) = true)
    (a19 : PySem.W.nsIn K mainGlobals "joined" = some (some (.ref f_joined))) (l19 : K.lookup f_joined = some ⟨oc19, od19, .func (PySem.W.fnOf "joined" "joined" (defArgs s_joined) (defBody s_joined) (defScope s_joined) .none kV19 dc19 pm19 an19 cd19 ct19), sl19⟩) (c19 : PySem.W.codeIn K cd19 "joined" = true) (k19 : PySem.W.keepIn K (.ref f_joined) = true)
    (a20 : PySem.W.nsIn K mainGlobals "costs_to" = some (some (.ref f_costs_to))) (l20 : K.lookup f_costs_to = some ⟨oc20, od20, .func (PySem.W.fnOf "costs_to" "costs_to" (defArgs s_costs_to) (defBody s_costs_to) (defScope s_costs_to) .none kV20 dc20 pm20 an20 cd20 ct20), sl20⟩) (c20 : PySem.W.codeIn K cd20 "costs_to" = true) (k20 : PySem.W.keepIn K (.ref f_costs_to) = true)
    (a21 : PySem.W.nsIn K mainGlobals "all_costs" = some (some (.ref f_all_costs))) (l21 : K.lookup f_all_costs = some ⟨oc21, od21, .func (PySem.W.fnOf "all_costs" "all_costs" (defArgs s_all_costs) (defBody s_all_costs) (defScope s_all_costs) .none kV21 dc21 pm21 an21 cd21 ct21), sl21⟩) (c21 : PySem.W.codeIn K cd21 "all_costs" = true) (k21 : PySem.W.keepIn K (.ref f_all_costs) = true)
    (a22 : PySem.W.nsIn K mainGlobals "is_above" = some (some (.ref f_is_above))) (l22 : K.lookup f_is_above = some ⟨oc22, od22, .func (PySem.W.fnOf "is_above" "is_above" (defArgs s_is_above) (defBody s_is_above) (defScope s_is_above) .none kV22 dc22 pm22 an22 cd22 ct22), sl22⟩) (c22 : PySem.W.codeIn K cd22 "is_above" = true) (k22 : PySem.W.keepIn K (.ref f_is_above) = true)
    (a23 : PySem.W.nsIn K mainGlobals "step_least" = some (some (.ref f_step_least))) (l23 : K.lookup f_step_least = some ⟨oc23, od23, .func (PySem.W.fnOf "step_least" "step_least" (defArgs s_step_least) (defBody s_step_least) (defScope s_step_least) .none kV23 dc23 pm23 an23 cd23 ct23), sl23⟩) (c23 : PySem.W.codeIn K cd23 "step_least" = true) (k23 : PySem.W.keepIn K (.ref f_step_least) = true)
    (a24 : PySem.W.nsIn K mainGlobals "best_entry" = some (some (.ref f_best_entry))) (l24 : K.lookup f_best_entry = some ⟨oc24, od24, .func (PySem.W.fnOf "best_entry" "best_entry" (defArgs s_best_entry) (defBody s_best_entry) (defScope s_best_entry) .none kV24 dc24 pm24 an24 cd24 ct24), sl24⟩) (c24 : PySem.W.codeIn K cd24 "best_entry" = true) (k24 : PySem.W.keepIn K (.ref f_best_entry) = true)
    (a25 : PySem.W.nsIn K mainGlobals "laid_row" = some (some (.ref f_laid_row))) (l25 : K.lookup f_laid_row = some ⟨oc25, od25, .func (PySem.W.fnOf "laid_row" "laid_row" (defArgs s_laid_row) (defBody s_laid_row) (defScope s_laid_row) .none kV25 dc25 pm25 an25 cd25 ct25), sl25⟩) (c25 : PySem.W.codeIn K cd25 "laid_row" = true) (k25 : PySem.W.keepIn K (.ref f_laid_row) = true)
    (a26 : PySem.W.nsIn K mainGlobals "_law_cell" = some (some (.ref f_law_cell))) (l26 : K.lookup f_law_cell = some ⟨oc26, od26, .func (PySem.W.fnOf "_law_cell" "_law_cell" (defArgs s_law_cell) (defBody s_law_cell) (defScope s_law_cell) .none kV26 dc26 pm26 an26 cd26 ct26), sl26⟩) (c26 : PySem.W.codeIn K cd26 "_law_cell" = true) (k26 : PySem.W.keepIn K (.ref f_law_cell) = true)
    (a27 : PySem.W.nsIn K mainGlobals "_law_lowest" = some (some (.ref f_law_lowest))) (l27 : K.lookup f_law_lowest = some ⟨oc27, od27, .func (PySem.W.fnOf "_law_lowest" "_law_lowest" (defArgs s_law_lowest) (defBody s_law_lowest) (defScope s_law_lowest) .none kV27 dc27 pm27 an27 cd27 ct27), sl27⟩) (c27 : PySem.W.codeIn K cd27 "_law_lowest" = true) (k27 : PySem.W.keepIn K (.ref f_law_lowest) = true)
    (a28 : PySem.W.nsIn K mainGlobals "_law_whole" = some (some (.ref f_law_whole))) (l28 : K.lookup f_law_whole = some ⟨oc28, od28, .func (PySem.W.fnOf "_law_whole" "_law_whole" (defArgs s_law_whole) (defBody s_law_whole) (defScope s_law_whole) .none kV28 dc28 pm28 an28 cd28 ct28), sl28⟩) (c28 : PySem.W.codeIn K cd28 "_law_whole" = true) (k28 : PySem.W.keepIn K (.ref f_law_whole) = true)
    (a29 : PySem.W.nsIn K mainGlobals "_law_fraction" = some (some (.ref f_law_fraction))) (l29 : K.lookup f_law_fraction = some ⟨oc29, od29, .func (PySem.W.fnOf "_law_fraction" "_law_fraction" (defArgs s_law_fraction) (defBody s_law_fraction) (defScope s_law_fraction) .none kV29 dc29 pm29 an29 cd29 ct29), sl29⟩) (c29 : PySem.W.codeIn K cd29 "_law_fraction" = true) (k29 : PySem.W.keepIn K (.ref f_law_fraction) = true)
    (a30 : PySem.W.nsIn K mainGlobals "_law_heights" = some (some (.ref f_law_heights))) (l30 : K.lookup f_law_heights = some ⟨oc30, od30, .func (PySem.W.fnOf "_law_heights" "_law_heights" (defArgs s_law_heights) (defBody s_law_heights) (defScope s_law_heights) .none kV30 dc30 pm30 an30 cd30 ct30), sl30⟩) (c30 : PySem.W.codeIn K cd30 "_law_heights" = true) (k30 : PySem.W.keepIn K (.ref f_law_heights) = true)
    (a31 : PySem.W.nsIn K mainGlobals "_law_weights" = some (some (.ref f_law_weights))) (l31 : K.lookup f_law_weights = some ⟨oc31, od31, .func (PySem.W.fnOf "_law_weights" "_law_weights" (defArgs s_law_weights) (defBody s_law_weights) (defScope s_law_weights) .none kV31 dc31 pm31 an31 cd31 ct31), sl31⟩) (c31 : PySem.W.codeIn K cd31 "_law_weights" = true) (k31 : PySem.W.keepIn K (.ref f_law_weights) = true)
    (a32 : PySem.W.nsIn K mainGlobals "_law_bottom" = some (some (.ref f_law_bottom))) (l32 : K.lookup f_law_bottom = some ⟨oc32, od32, .func (PySem.W.fnOf "_law_bottom" "_law_bottom" (defArgs s_law_bottom) (defBody s_law_bottom) (defScope s_law_bottom) .none kV32 dc32 pm32 an32 cd32 ct32), sl32⟩) (c32 : PySem.W.codeIn K cd32 "_law_bottom" = true) (k32 : PySem.W.keepIn K (.ref f_law_bottom) = true)
    (a33 : PySem.W.nsIn K mainGlobals "_law_marks" = some (some (.ref f_law_marks))) (l33 : K.lookup f_law_marks = some ⟨oc33, od33, .func (PySem.W.fnOf "_law_marks" "_law_marks" (defArgs s_law_marks) (defBody s_law_marks) (defScope s_law_marks) .none kV33 dc33 pm33 an33 cd33 ct33), sl33⟩) (c33 : PySem.W.codeIn K cd33 "_law_marks" = true) (k33 : PySem.W.keepIn K (.ref f_law_marks) = true)
    (a34 : PySem.W.nsIn K mainGlobals "_law_cost" = some (some (.ref f_law_cost))) (l34 : K.lookup f_law_cost = some ⟨oc34, od34, .func (PySem.W.fnOf "_law_cost" "_law_cost" (defArgs s_law_cost) (defBody s_law_cost) (defScope s_law_cost) .none kV34 dc34 pm34 an34 cd34 ct34), sl34⟩) (c34 : PySem.W.codeIn K cd34 "_law_cost" = true) (k34 : PySem.W.keepIn K (.ref f_law_cost) = true)
    (a35 : PySem.W.nsIn K mainGlobals "_law_less" = some (some (.ref f_law_less))) (l35 : K.lookup f_law_less = some ⟨oc35, od35, .func (PySem.W.fnOf "_law_less" "_law_less" (defArgs s_law_less) (defBody s_law_less) (defScope s_law_less) .none kV35 dc35 pm35 an35 cd35 ct35), sl35⟩) (c35 : PySem.W.codeIn K cd35 "_law_less" = true) (k35 : PySem.W.keepIn K (.ref f_law_less) = true)
    (a36 : PySem.W.nsIn K mainGlobals "_law_joined" = some (some (.ref f_law_joined))) (l36 : K.lookup f_law_joined = some ⟨oc36, od36, .func (PySem.W.fnOf "_law_joined" "_law_joined" (defArgs s_law_joined) (defBody s_law_joined) (defScope s_law_joined) .none kV36 dc36 pm36 an36 cd36 ct36), sl36⟩) (c36 : PySem.W.codeIn K cd36 "_law_joined" = true) (k36 : PySem.W.keepIn K (.ref f_law_joined) = true)
    (a37 : PySem.W.nsIn K mainGlobals "_law_missed" = some (some (.ref f_law_missed))) (l37 : K.lookup f_law_missed = some ⟨oc37, od37, .func (PySem.W.fnOf "_law_missed" "_law_missed" (defArgs s_law_missed) (defBody s_law_missed) (defScope s_law_missed) .none kV37 dc37 pm37 an37 cd37 ct37), sl37⟩) (c37 : PySem.W.codeIn K cd37 "_law_missed" = true) (k37 : PySem.W.keepIn K (.ref f_law_missed) = true)
    (a38 : PySem.W.nsIn K mainGlobals "_law_row" = some (some (.ref f_law_row))) (l38 : K.lookup f_law_row = some ⟨oc38, od38, .func (PySem.W.fnOf "_law_row" "_law_row" (defArgs s_law_row) (defBody s_law_row) (defScope s_law_row) .none kV38 dc38 pm38 an38 cd38 ct38), sl38⟩) (c38 : PySem.W.codeIn K cd38 "_law_row" = true) (k38 : PySem.W.keepIn K (.ref f_law_row) = true)
    (a39 : PySem.W.nsIn K mainGlobals "_law_steps" = some (some (.ref f_law_steps))) (l39 : K.lookup f_law_steps = some ⟨oc39, od39, .func (PySem.W.fnOf "_law_steps" "_law_steps" (defArgs s_law_steps) (defBody s_law_steps) (defScope s_law_steps) .none kV39 dc39 pm39 an39 cd39 ct39), sl39⟩) (c39 : PySem.W.codeIn K cd39 "_law_steps" = true) (k39 : PySem.W.keepIn K (.ref f_law_steps) = true)
    (a40 : PySem.W.nsIn K mainGlobals "_law_is_low" = some (some (.ref f_law_is_low))) (l40 : K.lookup f_law_is_low = some ⟨oc40, od40, .func (PySem.W.fnOf "_law_is_low" "_law_is_low" (defArgs s_law_is_low) (defBody s_law_is_low) (defScope s_law_is_low) .none kV40 dc40 pm40 an40 cd40 ct40), sl40⟩) (c40 : PySem.W.codeIn K cd40 "_law_is_low" = true) (k40 : PySem.W.keepIn K (.ref f_law_is_low) = true)
    (a41 : PySem.W.nsIn K mainGlobals "_law_many_steps" = some (some (.ref f_law_many_steps))) (l41 : K.lookup f_law_many_steps = some ⟨oc41, od41, .func (PySem.W.fnOf "_law_many_steps" "_law_many_steps" (defArgs s_law_many_steps) (defBody s_law_many_steps) (defScope s_law_many_steps) .none kV41 dc41 pm41 an41 cd41 ct41), sl41⟩) (c41 : PySem.W.codeIn K cd41 "_law_many_steps" = true) (k41 : PySem.W.keepIn K (.ref f_law_many_steps) = true)
    (a42 : PySem.W.nsIn K mainGlobals "law" = some (some (.ref f_law))) (l42 : K.lookup f_law = some ⟨oc42, od42, .func (PySem.W.fnOf "law" "law" (defArgs s_law) (defBody s_law) (defScope s_law) .none kV42 dc42 pm42 an42 cd42 ct42), sl42⟩) (c42 : PySem.W.codeIn K cd42 "law" = true) (k42 : PySem.W.keepIn K (.ref f_law) = true)
    (ax_NoNumber : PySem.W.nsIn K mainGlobals "NoNumber" = some (some (.ref x_NoNumber))) (xx_NoNumber : PySem.W.excIn K x_NoNumber [.type "ValueError", .type "Exception", .type "BaseException", .type "object"] "ValueError.__new__" = true)
    (ax_NoKind : PySem.W.nsIn K mainGlobals "NoKind" = some (some (.ref x_NoKind))) (xx_NoKind : PySem.W.excIn K x_NoKind [.type "ValueError", .type "Exception", .type "BaseException", .type "object"] "ValueError.__new__" = true)
    (z_a : PySem.W.nsIn K mainGlobals "a" = some none)
    (z_abs : PySem.W.nsIn K mainGlobals "abs" = some none)
    (z_b : PySem.W.nsIn K mainGlobals "b" = some none)
    (z_bool : PySem.W.nsIn K mainGlobals "bool" = some none)
    (z_enumerate : PySem.W.nsIn K mainGlobals "enumerate" = some none)
    (z_first : PySem.W.nsIn K mainGlobals "first" = some none)
    (z_h : PySem.W.nsIn K mainGlobals "h" = some none)
    (z_height : PySem.W.nsIn K mainGlobals "height" = some none)
    (z_int : PySem.W.nsIn K mainGlobals "int" = some none)
    (z_isinstance : PySem.W.nsIn K mainGlobals "isinstance" = some none)
    (z_last : PySem.W.nsIn K mainGlobals "last" = some none)
    (z_len : PySem.W.nsIn K mainGlobals "len" = some none)
    (z_list : PySem.W.nsIn K mainGlobals "list" = some none)
    (z_mark : PySem.W.nsIn K mainGlobals "mark" = some none)
    (z_max : PySem.W.nsIn K mainGlobals "max" = some none)
    (z_min : PySem.W.nsIn K mainGlobals "min" = some none)
    (z_miss : PySem.W.nsIn K mainGlobals "miss" = some none)
    (z_one : PySem.W.nsIn K mainGlobals "one" = some none)
    (z_pair : PySem.W.nsIn K mainGlobals "pair" = some none)
    (z_range : PySem.W.nsIn K mainGlobals "range" = some none)
    (z_some : PySem.W.nsIn K mainGlobals "some" = some none)
    (z_str : PySem.W.nsIn K mainGlobals "str" = some none)
    (z_sum : PySem.W.nsIn K mainGlobals "sum" = some none)
    (z_tuple : PySem.W.nsIn K mainGlobals "tuple" = some none)
    (z_w : PySem.W.nsIn K mainGlobals "w" = some none)
    (z_weight : PySem.W.nsIn K mainGlobals "weight" = some none)
    (z_zip : PySem.W.nsIn K mainGlobals "zip" = some none)
    {tk0_KINDS tk1_KINDS tk2_KINDS : Tok} {od_KINDS : Option Addr} {n_KINDS : Nat} {sl_KINDS : Array (Option Value)} (zc_KINDS : PySem.W.nsIn K mainGlobals "KINDS" = some (some (.ref g_KINDS)))
    (lk_KINDS : K.lookup g_KINDS = some ⟨.type "tuple", od_KINDS, .seq #[(.str "far" tk0_KINDS), (.str "sum" tk1_KINDS), (.str "square" tk2_KINDS)] n_KINDS, sl_KINDS⟩)
    {tk_MOST_STEPS : Tok} (zc_MOST_STEPS : PySem.W.nsIn K mainGlobals "MOST_STEPS" = some (some (.int 59 tk_MOST_STEPS)))
    {tk0_NOUGHT tk1_NOUGHT : Tok} {od_NOUGHT : Option Addr} {n_NOUGHT : Nat} {sl_NOUGHT : Array (Option Value)} (zc_NOUGHT : PySem.W.nsIn K mainGlobals "NOUGHT" = some (some (.ref g_NOUGHT)))
    (lk_NOUGHT : K.lookup g_NOUGHT = some ⟨.type "tuple", od_NOUGHT, .seq #[(.int 0 tk0_NOUGHT), (.int 1 tk1_NOUGHT)] n_NOUGHT, sl_NOUGHT⟩)
    : ∃ fd : FuncData, (∀ (s : Shared) (v : Value), BindsTo s fd ⟨[v], []⟩ [("script", v)]) ∧ ∀ base : Heap, K.In base → base.Ns mainGlobals mg → FnOk l.prog w K mg base (CXE l.prog w) 11 fa fd ["script"] (spLaw K) := by
  have e := hfa.symm.trans (PySem.W.mg_of X G a42)
  cases e
  have F0 := fun_mk (st := s_common_divisor) l0 c0 k0
  have b0 := F0.binds (ps := ["one", "other"]) fun _ _ _ _ _ _ us hl => match us, hl with | [_, _], _ => rfl
  have F1 := fun_mk (st := s_fraction) l1 c1 k1
  have b1 := F1.binds (ps := ["top", "bottom"]) fun _ _ _ _ _ _ us hl => match us, hl with | [_, _], _ => rfl
  have F2 := fun_mk (st := s_plus) l2 c2 k2
  have b2 := F2.binds (ps := ["one", "other"]) fun _ _ _ _ _ _ us hl => match us, hl with | [_, _], _ => rfl
  have F3 := fun_mk (st := s_minus) l3 c3 k3
  have b3 := F3.binds (ps := ["one", "other"]) fun _ _ _ _ _ _ us hl => match us, hl with | [_, _], _ => rfl
  have F4 := fun_mk (st := s_product) l4 c4 k4
  have b4 := F4.binds (ps := ["one", "other"]) fun _ _ _ _ _ _ us hl => match us, hl with | [_, _], _ => rfl
  have F5 := fun_mk (st := s_quotient) l5 c5 k5
  have b5 := F5.binds (ps := ["one", "other"]) fun _ _ _ _ _ _ us hl => match us, hl with | [_, _], _ => rfl
  have F6 := fun_mk (st := s_is_less) l6 c6 k6
  have b6 := F6.binds (ps := ["one", "other"]) fun _ _ _ _ _ _ us hl => match us, hl with | [_, _], _ => rfl
  have F7 := fun_mk (st := s_size_of) l7 c7 k7
  have b7 := F7.binds (ps := ["one"]) fun _ _ _ _ _ _ us hl => match us, hl with | [_], _ => rfl
  have F8 := fun_mk (st := s_total_of) l8 c8 k8
  have b8 := F8.binds (ps := ["some"]) fun _ _ _ _ _ _ us hl => match us, hl with | [_], _ => rfl
  have F9 := fun_mk (st := s_greatest_of) l9 c9 k9
  have b9 := F9.binds (ps := ["some"]) fun _ _ _ _ _ _ us hl => match us, hl with | [_], _ => rfl
  have F10 := fun_mk (st := s_least_of) l10 c10 k10
  have b10 := F10.binds (ps := ["some"]) fun _ _ _ _ _ _ us hl => match us, hl with | [_], _ => rfl
  have F11 := fun_mk (st := s_misses_of) l11 c11 k11
  have b11 := F11.binds (ps := ["marks", "row"]) fun _ _ _ _ _ _ us hl => match us, hl with | [_, _], _ => rfl
  have F12 := fun_mk (st := s_check_kind) l12 c12 k12
  have b12 := F12.binds (ps := ["kind"]) fun _ _ _ _ _ _ us hl => match us, hl with | [_], _ => rfl
  have F13 := fun_mk (st := s_weighed_misses) l13 c13 k13
  have b13 := F13.binds (ps := ["marks", "row"]) fun _ _ _ _ _ _ us hl => match us, hl with | [_, _], _ => rfl
  have F14 := fun_mk (st := s_measured) l14 c14 k14
  have b14 := F14.binds (ps := ["kind", "marks", "row"]) fun _ _ _ _ _ _ us hl => match us, hl with | [_, _, _], _ => rfl
  have F15 := fun_mk (st := s_least_level) l15 c15 k15
  have b15 := F15.binds (ps := ["kind", "marks"]) fun _ _ _ _ _ _ us hl => match us, hl with | [_, _], _ => rfl
  have F16 := fun_mk (st := s_middle_of) l16 c16 k16
  have b16 := F16.binds (ps := ["some", "weights"]) fun _ _ _ _ _ _ us hl => match us, hl with | [_, _], _ => rfl
  have F17 := fun_mk (st := s_in_order) l17 c17 k17
  have b17 := F17.binds (ps := ["some", "weights"]) fun _ _ _ _ _ _ us hl => match us, hl with | [_, _], _ => rfl
  have F18 := fun_mk (st := s_stretch_cost) l18 c18 k18
  have b18 := F18.binds (ps := ["kind", "marks", "first", "last"]) fun _ _ _ _ _ _ us hl => match us, hl with | [_, _, _, _], _ => rfl
  have F19 := fun_mk (st := s_joined) l19 c19 k19
  have b19 := F19.binds (ps := ["kind", "one", "other"]) fun _ _ _ _ _ _ us hl => match us, hl with | [_, _, _], _ => rfl
  have F20 := fun_mk (st := s_costs_to) l20 c20 k20
  have b20 := F20.binds (ps := ["kind", "marks", "last"]) fun _ _ _ _ _ _ us hl => match us, hl with | [_, _, _], _ => rfl
  have F21 := fun_mk (st := s_all_costs) l21 c21 k21
  have b21 := F21.binds (ps := ["kind", "marks"]) fun _ _ _ _ _ _ us hl => match us, hl with | [_, _], _ => rfl
  have F22 := fun_mk (st := s_is_above) l22 c22 k22
  have b22 := F22.binds (ps := ["kind", "entry", "one", "other"]) fun _ _ _ _ _ _ us hl => match us, hl with | [_, _, _, _], _ => rfl
  have F23 := fun_mk (st := s_step_least) l23 c23 k23
  have b23 := F23.binds (ps := ["kind", "marks", "k"]) fun _ _ _ _ _ _ us hl => match us, hl with | [_, _, _], _ => rfl
  have F24 := fun_mk (st := s_best_entry) l24 c24 k24
  have b24 := F24.binds (ps := ["kind", "costs", "entries_ahead"]) fun _ _ _ _ _ _ us hl => match us, hl with | [_, _, _], _ => rfl
  have F25 := fun_mk (st := s_laid_row) l25 c25 k25
  have b25 := F25.binds (ps := ["kind", "marks", "starts"]) fun _ _ _ _ _ _ us hl => match us, hl with | [_, _, _], _ => rfl
  have F26 := fun_mk (st := s_law_cell) l26 c26 k26
  have b26 := F26.binds (ps := ["script", "k"]) fun _ _ _ _ _ _ us hl => match us, hl with | [_, _], _ => rfl
  have F27 := fun_mk (st := s_law_lowest) l27 c27 k27
  have b27 := F27.binds (ps := ["top", "bottom"]) fun _ _ _ _ _ _ us hl => match us, hl with | [_, _], _ => rfl
  have F28 := fun_mk (st := s_law_whole) l28 c28 k28
  have b28 := F28.binds (ps := ["thing"]) fun _ _ _ _ _ _ us hl => match us, hl with | [_], _ => rfl
  have F29 := fun_mk (st := s_law_fraction) l29 c29 k29
  have b29 := F29.binds (ps := ["found"]) fun _ _ _ _ _ _ us hl => match us, hl with | [_], _ => rfl
  have F30 := fun_mk (st := s_law_heights) l30 c30 k30
  have b30 := F30.binds (ps := ["script", "many"]) fun _ _ _ _ _ _ us hl => match us, hl with | [_, _], _ => rfl
  have F31 := fun_mk (st := s_law_weights) l31 c31 k31
  have b31 := F31.binds (ps := ["script", "many"]) fun _ _ _ _ _ _ us hl => match us, hl with | [_, _], _ => rfl
  have F32 := fun_mk (st := s_law_bottom) l32 c32 k32
  have b32 := F32.binds (ps := ["script"]) fun _ _ _ _ _ _ us hl => match us, hl with | [_], _ => rfl
  have F33 := fun_mk (st := s_law_marks) l33 c33 k33
  have b33 := F33.binds (ps := ["script", "heights", "weights", "bottom"]) fun _ _ _ _ _ _ us hl => match us, hl with | [_, _, _, _], _ => rfl
  have F34 := fun_mk (st := s_law_cost) l34 c34 k34
  have b34 := F34.binds (ps := ["kind", "heights", "weights", "bottom"]) fun _ _ _ _ _ _ us hl => match us, hl with | [_, _, _, _], _ => rfl
  have F35 := fun_mk (st := s_law_less) l35 c35 k35
  have b35 := F35.binds (ps := ["one", "other"]) fun _ _ _ _ _ _ us hl => match us, hl with | [_, _], _ => rfl
  have F36 := fun_mk (st := s_law_joined) l36 c36 k36
  have b36 := F36.binds (ps := ["kind", "one", "other"]) fun _ _ _ _ _ _ us hl => match us, hl with | [_, _, _], _ => rfl
  have F37 := fun_mk (st := s_law_missed) l37 c37 k37
  have b37 := F37.binds (ps := ["kind", "some", "row"]) fun _ _ _ _ _ _ us hl => match us, hl with | [_, _, _], _ => rfl
  have F38 := fun_mk (st := s_law_row) l38 c38 k38
  have b38 := F38.binds (ps := ["found", "many"]) fun _ _ _ _ _ _ us hl => match us, hl with | [_, _], _ => rfl
  have F39 := fun_mk (st := s_law_steps) l39 c39 k39
  have b39 := F39.binds (ps := ["row"]) fun _ _ _ _ _ _ us hl => match us, hl with | [_], _ => rfl
  have F40 := fun_mk (st := s_law_is_low) l40 c40 k40
  have b40 := F40.binds (ps := ["kind", "costs", "table"]) fun _ _ _ _ _ _ us hl => match us, hl with | [_, _, _], _ => rfl
  have F41 := fun_mk (st := s_law_many_steps) l41 c41 k41
  have b41 := F41.binds (ps := ["script", "many"]) fun _ _ _ _ _ _ us hl => match us, hl with | [_, _], _ => rfl
  have F42 := fun_mk (st := s_law) l42 c42 k42
  have b42 := F42.binds (ps := ["script"]) fun _ _ _ _ _ _ us hl => match us, hl with | [_], _ => rfl
  have T : Txt K mg ⟨f_common_divisor, PySem.W.fnOf "common_divisor" "common_divisor" (defArgs s_common_divisor) (defBody s_common_divisor) (defScope s_common_divisor) .none kV0 dc0 pm0 an0 cd0 ct0, f_fraction, PySem.W.fnOf "fraction" "fraction" (defArgs s_fraction) (defBody s_fraction) (defScope s_fraction) .none kV1 dc1 pm1 an1 cd1 ct1, f_plus, PySem.W.fnOf "plus" "plus" (defArgs s_plus) (defBody s_plus) (defScope s_plus) .none kV2 dc2 pm2 an2 cd2 ct2, f_minus, PySem.W.fnOf "minus" "minus" (defArgs s_minus) (defBody s_minus) (defScope s_minus) .none kV3 dc3 pm3 an3 cd3 ct3, f_product, PySem.W.fnOf "product" "product" (defArgs s_product) (defBody s_product) (defScope s_product) .none kV4 dc4 pm4 an4 cd4 ct4, f_quotient, PySem.W.fnOf "quotient" "quotient" (defArgs s_quotient) (defBody s_quotient) (defScope s_quotient) .none kV5 dc5 pm5 an5 cd5 ct5, f_is_less, PySem.W.fnOf "is_less" "is_less" (defArgs s_is_less) (defBody s_is_less) (defScope s_is_less) .none kV6 dc6 pm6 an6 cd6 ct6, f_size_of, PySem.W.fnOf "size_of" "size_of" (defArgs s_size_of) (defBody s_size_of) (defScope s_size_of) .none kV7 dc7 pm7 an7 cd7 ct7, f_total_of, PySem.W.fnOf "total_of" "total_of" (defArgs s_total_of) (defBody s_total_of) (defScope s_total_of) .none kV8 dc8 pm8 an8 cd8 ct8, f_greatest_of, PySem.W.fnOf "greatest_of" "greatest_of" (defArgs s_greatest_of) (defBody s_greatest_of) (defScope s_greatest_of) .none kV9 dc9 pm9 an9 cd9 ct9, f_least_of, PySem.W.fnOf "least_of" "least_of" (defArgs s_least_of) (defBody s_least_of) (defScope s_least_of) .none kV10 dc10 pm10 an10 cd10 ct10, f_misses_of, PySem.W.fnOf "misses_of" "misses_of" (defArgs s_misses_of) (defBody s_misses_of) (defScope s_misses_of) .none kV11 dc11 pm11 an11 cd11 ct11, f_check_kind, PySem.W.fnOf "check_kind" "check_kind" (defArgs s_check_kind) (defBody s_check_kind) (defScope s_check_kind) .none kV12 dc12 pm12 an12 cd12 ct12, f_weighed_misses, PySem.W.fnOf "weighed_misses" "weighed_misses" (defArgs s_weighed_misses) (defBody s_weighed_misses) (defScope s_weighed_misses) .none kV13 dc13 pm13 an13 cd13 ct13, f_measured, PySem.W.fnOf "measured" "measured" (defArgs s_measured) (defBody s_measured) (defScope s_measured) .none kV14 dc14 pm14 an14 cd14 ct14, f_least_level, PySem.W.fnOf "least_level" "least_level" (defArgs s_least_level) (defBody s_least_level) (defScope s_least_level) .none kV15 dc15 pm15 an15 cd15 ct15, f_middle_of, PySem.W.fnOf "middle_of" "middle_of" (defArgs s_middle_of) (defBody s_middle_of) (defScope s_middle_of) .none kV16 dc16 pm16 an16 cd16 ct16, f_in_order, PySem.W.fnOf "in_order" "in_order" (defArgs s_in_order) (defBody s_in_order) (defScope s_in_order) .none kV17 dc17 pm17 an17 cd17 ct17, f_stretch_cost, PySem.W.fnOf "stretch_cost" "stretch_cost" (defArgs s_stretch_cost) (defBody s_stretch_cost) (defScope s_stretch_cost) .none kV18 dc18 pm18 an18 cd18 ct18, f_joined, PySem.W.fnOf "joined" "joined" (defArgs s_joined) (defBody s_joined) (defScope s_joined) .none kV19 dc19 pm19 an19 cd19 ct19, f_costs_to, PySem.W.fnOf "costs_to" "costs_to" (defArgs s_costs_to) (defBody s_costs_to) (defScope s_costs_to) .none kV20 dc20 pm20 an20 cd20 ct20, f_all_costs, PySem.W.fnOf "all_costs" "all_costs" (defArgs s_all_costs) (defBody s_all_costs) (defScope s_all_costs) .none kV21 dc21 pm21 an21 cd21 ct21, f_is_above, PySem.W.fnOf "is_above" "is_above" (defArgs s_is_above) (defBody s_is_above) (defScope s_is_above) .none kV22 dc22 pm22 an22 cd22 ct22, f_step_least, PySem.W.fnOf "step_least" "step_least" (defArgs s_step_least) (defBody s_step_least) (defScope s_step_least) .none kV23 dc23 pm23 an23 cd23 ct23, f_best_entry, PySem.W.fnOf "best_entry" "best_entry" (defArgs s_best_entry) (defBody s_best_entry) (defScope s_best_entry) .none kV24 dc24 pm24 an24 cd24 ct24, f_laid_row, PySem.W.fnOf "laid_row" "laid_row" (defArgs s_laid_row) (defBody s_laid_row) (defScope s_laid_row) .none kV25 dc25 pm25 an25 cd25 ct25, f_law_cell, PySem.W.fnOf "_law_cell" "_law_cell" (defArgs s_law_cell) (defBody s_law_cell) (defScope s_law_cell) .none kV26 dc26 pm26 an26 cd26 ct26, f_law_lowest, PySem.W.fnOf "_law_lowest" "_law_lowest" (defArgs s_law_lowest) (defBody s_law_lowest) (defScope s_law_lowest) .none kV27 dc27 pm27 an27 cd27 ct27, f_law_whole, PySem.W.fnOf "_law_whole" "_law_whole" (defArgs s_law_whole) (defBody s_law_whole) (defScope s_law_whole) .none kV28 dc28 pm28 an28 cd28 ct28, f_law_fraction, PySem.W.fnOf "_law_fraction" "_law_fraction" (defArgs s_law_fraction) (defBody s_law_fraction) (defScope s_law_fraction) .none kV29 dc29 pm29 an29 cd29 ct29, f_law_heights, PySem.W.fnOf "_law_heights" "_law_heights" (defArgs s_law_heights) (defBody s_law_heights) (defScope s_law_heights) .none kV30 dc30 pm30 an30 cd30 ct30, f_law_weights, PySem.W.fnOf "_law_weights" "_law_weights" (defArgs s_law_weights) (defBody s_law_weights) (defScope s_law_weights) .none kV31 dc31 pm31 an31 cd31 ct31, f_law_bottom, PySem.W.fnOf "_law_bottom" "_law_bottom" (defArgs s_law_bottom) (defBody s_law_bottom) (defScope s_law_bottom) .none kV32 dc32 pm32 an32 cd32 ct32, f_law_marks, PySem.W.fnOf "_law_marks" "_law_marks" (defArgs s_law_marks) (defBody s_law_marks) (defScope s_law_marks) .none kV33 dc33 pm33 an33 cd33 ct33, f_law_cost, PySem.W.fnOf "_law_cost" "_law_cost" (defArgs s_law_cost) (defBody s_law_cost) (defScope s_law_cost) .none kV34 dc34 pm34 an34 cd34 ct34, f_law_less, PySem.W.fnOf "_law_less" "_law_less" (defArgs s_law_less) (defBody s_law_less) (defScope s_law_less) .none kV35 dc35 pm35 an35 cd35 ct35, f_law_joined, PySem.W.fnOf "_law_joined" "_law_joined" (defArgs s_law_joined) (defBody s_law_joined) (defScope s_law_joined) .none kV36 dc36 pm36 an36 cd36 ct36, f_law_missed, PySem.W.fnOf "_law_missed" "_law_missed" (defArgs s_law_missed) (defBody s_law_missed) (defScope s_law_missed) .none kV37 dc37 pm37 an37 cd37 ct37, f_law_row, PySem.W.fnOf "_law_row" "_law_row" (defArgs s_law_row) (defBody s_law_row) (defScope s_law_row) .none kV38 dc38 pm38 an38 cd38 ct38, f_law_steps, PySem.W.fnOf "_law_steps" "_law_steps" (defArgs s_law_steps) (defBody s_law_steps) (defScope s_law_steps) .none kV39 dc39 pm39 an39 cd39 ct39, f_law_is_low, PySem.W.fnOf "_law_is_low" "_law_is_low" (defArgs s_law_is_low) (defBody s_law_is_low) (defScope s_law_is_low) .none kV40 dc40 pm40 an40 cd40 ct40, f_law_many_steps, PySem.W.fnOf "_law_many_steps" "_law_many_steps" (defArgs s_law_many_steps) (defBody s_law_many_steps) (defScope s_law_many_steps) .none kV41 dc41 pm41 an41 cd41 ct41, fa, PySem.W.fnOf "law" "law" (defArgs s_law) (defBody s_law) (defScope s_law) .none kV42 dc42 pm42 an42 cd42 ct42, x_NoNumber, x_NoKind, g_KINDS, g_NOUGHT⟩ := ⟨F0, PySem.W.mg_of X G a0, b0, F1, PySem.W.mg_of X G a1, b1, F2, PySem.W.mg_of X G a2, b2, F3, PySem.W.mg_of X G a3, b3, F4, PySem.W.mg_of X G a4, b4, F5, PySem.W.mg_of X G a5, b5, F6, PySem.W.mg_of X G a6, b6, F7, PySem.W.mg_of X G a7, b7, F8, PySem.W.mg_of X G a8, b8, F9, PySem.W.mg_of X G a9, b9, F10, PySem.W.mg_of X G a10, b10, F11, PySem.W.mg_of X G a11, b11, F12, PySem.W.mg_of X G a12, b12, F13, PySem.W.mg_of X G a13, b13, F14, PySem.W.mg_of X G a14, b14, F15, PySem.W.mg_of X G a15, b15, F16, PySem.W.mg_of X G a16, b16, F17, PySem.W.mg_of X G a17, b17, F18, PySem.W.mg_of X G a18, b18, F19, PySem.W.mg_of X G a19, b19, F20, PySem.W.mg_of X G a20, b20, F21, PySem.W.mg_of X G a21, b21, F22, PySem.W.mg_of X G a22, b22, F23, PySem.W.mg_of X G a23, b23, F24, PySem.W.mg_of X G a24, b24, F25, PySem.W.mg_of X G a25, b25, F26, PySem.W.mg_of X G a26, b26, F27, PySem.W.mg_of X G a27, b27, F28, PySem.W.mg_of X G a28, b28, F29, PySem.W.mg_of X G a29, b29, F30, PySem.W.mg_of X G a30, b30, F31, PySem.W.mg_of X G a31, b31, F32, PySem.W.mg_of X G a32, b32, F33, PySem.W.mg_of X G a33, b33, F34, PySem.W.mg_of X G a34, b34, F35, PySem.W.mg_of X G a35, b35, F36, PySem.W.mg_of X G a36, b36, F37, PySem.W.mg_of X G a37, b37, F38, PySem.W.mg_of X G a38, b38, F39, PySem.W.mg_of X G a39, b39, F40, PySem.W.mg_of X G a40, b40, F41, PySem.W.mg_of X G a41, b41, F42, PySem.W.mg_of X G a42, b42, ⟨xx_NoNumber, PySem.W.mg_of X G ax_NoNumber⟩, ⟨xx_NoKind, PySem.W.mg_of X G ax_NoKind⟩, PySem.W.mg_none_of X G z_a, PySem.W.mg_none_of X G z_abs, PySem.W.mg_none_of X G z_b, PySem.W.mg_none_of X G z_bool, PySem.W.mg_none_of X G z_enumerate, PySem.W.mg_none_of X G z_first, PySem.W.mg_none_of X G z_h, PySem.W.mg_none_of X G z_height, PySem.W.mg_none_of X G z_int, PySem.W.mg_none_of X G z_isinstance, PySem.W.mg_none_of X G z_last, PySem.W.mg_none_of X G z_len, PySem.W.mg_none_of X G z_list, PySem.W.mg_none_of X G z_mark, PySem.W.mg_none_of X G z_max, PySem.W.mg_none_of X G z_min, PySem.W.mg_none_of X G z_miss, PySem.W.mg_none_of X G z_one, PySem.W.mg_none_of X G z_pair, PySem.W.mg_none_of X G z_range, PySem.W.mg_none_of X G z_some, PySem.W.mg_none_of X G z_str, PySem.W.mg_none_of X G z_sum, PySem.W.mg_none_of X G z_tuple, PySem.W.mg_none_of X G z_w, PySem.W.mg_none_of X G z_weight, PySem.W.mg_none_of X G z_zip, PySem.W.mg_of X G zc_KINDS, ktup (xs := [(.str "far"), (.str "sum"), (.str "square")]) lk_KINDS (Nat.le_of_lt (small1000 (show 3 ≤ 1000 by decide))) (.cons ⟨_, rfl⟩ (.cons ⟨_, rfl⟩ (.cons ⟨_, rfl⟩ .nil))) fun _ => .cons (.str "far") (.cons (.str "sum") (.cons (.str "square") .nil)), ⟨_, PySem.W.mg_of X G zc_MOST_STEPS⟩, PySem.W.mg_of X G zc_NOUGHT, ktup (xs := [(.int 0), (.int 1)]) lk_NOUGHT (Nat.le_of_lt (small1000 (show 2 ≤ 1000 by decide))) (.cons ⟨_, rfl⟩ (.cons ⟨_, rfl⟩ .nil)) fun _ => .cons (.int 0) (.cons (.int 1) .nil)⟩
  exact ⟨PySem.W.fnOf "law" "law" (defArgs s_law) (defBody s_law) (defScope s_law) .none kV42 dc42 pm42 an42 cd42 ct42, fun s v => .of_eq rfl, fun base _ _ => ok_law T⟩
end My
def PySem.W.Fast.tw12772233966876061464 : Unit := ()
def PySem.W.Fast.tw642383694826233289 : Unit := ()
def PySem.W.Fast.tw15309392035197850084 : Unit := ()
def PySem.W.Fast.tw15189419296134451362 : Unit := ()
def PySem.W.Fast.tw2701836015679867652 : Unit := ()
def PySem.W.Fast.tw15071796308813976732 : Unit := ()
def PySem.W.Fast.tw3199804956609267240 : Unit := ()
def PySem.W.Fast.tw11342865208413618199 : Unit := ()
def PySem.W.Fast.tw16963213030567736371 : Unit := ()
def PySem.W.Fast.tw5457957202859951476 : Unit := ()
def PySem.W.Fast.tw3739480980593085321 : Unit := ()
def PySem.W.Fast.tw10618847511872359874 : Unit := ()
def PySem.W.Fast.tw12279779400367022264 : Unit := ()
def PySem.W.Fast.tw9825744924846017746 : Unit := ()
def PySem.W.Fast.tw3829505249119906764 : Unit := ()
def PySem.W.Fast.tw7364922192501337824 : Unit := ()
def PySem.W.Fast.tw3372201182901903685 : Unit := ()
def PySem.W.Fast.tw12531296083329156650 : Unit := ()
def PySem.W.Fast.tw8990386025784285580 : Unit := ()
def PySem.W.Fast.tw13218498542612486117 : Unit := ()
def PySem.W.Fast.tw1622472086177284850 : Unit := ()
def PySem.W.Fast.tw16856503092978772301 : Unit := ()
def PySem.W.Fast.tw9350840853897932003 : Unit := ()
def PySem.W.Fast.tw14811791639366732500 : Unit := ()
def PySem.W.Fast.tw3466465764381756972 : Unit := ()
def PySem.W.Fast.tw9871641707983067242 : Unit := ()
def PySem.W.Fast.tw4505003228027411973 : Unit := ()
def PySem.W.Fast.tw15690138576245350801 : Unit := ()
def PySem.W.Fast.tw12656793834873276991 : Unit := ()
def PySem.W.Fast.tw6088484643452415529 : Unit := ()
def PySem.W.Fast.tw17423002975570767392 : Unit := ()
def PySem.W.Fast.tw7366662866879544586 : Unit := ()
def PySem.W.Fast.tw8504373429016885413 : Unit := ()
def PySem.W.Fast.tw16649560849998760437 : Unit := ()
def PySem.W.Fast.tw7774355530336789611 : Unit := ()
def PySem.W.Fast.tw9354528408394359348 : Unit := ()
def PySem.W.Fast.tw9995260984244446900 : Unit := ()
def PySem.W.Fast.tw13977293507187048550 : Unit := ()
def PySem.W.Fast.tw637388306173708026 : Unit := ()
def PySem.W.Fast.tw6875494209315812819 : Unit := ()
def PySem.W.Fast.tw4776367685017848658 : Unit := ()
def PySem.W.Fast.tw6214904779952210714 : Unit := ()
def PySem.W.Fast.tw920051788295658169 : Unit := ()
def PySem.W.Fast.tw8599907025862630137 : Unit := ()
def PySem.W.Fast.tw17194645065954511668 : Unit := ()
def PySem.W.Fast.tw4574375763007796103 : Unit := ()
def PySem.W.Fast.tw2975937693748650980 : Unit := ()
def PySem.W.Fast.tw7726715280731823740 : Unit := ()
def PySem.W.Fast.tw4364177693149543907 : Unit := ()
def PySem.W.Fast.tw10474731565884165727 : Unit := ()
def PySem.W.Fast.tw8922629477142499701 : Unit := ()
def PySem.W.Fast.tw4847745416416605005 : Unit := ()
def PySem.W.Fast.tw9866620392261255101 : Unit := ()
def PySem.W.Fast.tw6570873140634750214 : Unit := ()
def PySem.W.Fast.tw17580355852718129684 : Unit := ()
def PySem.W.Fast.tw6429415159992027414 : Unit := ()
def PySem.W.Fast.tw15979403037695167722 : Unit := ()
def PySem.W.Fast.tw18435888112765597287 : Unit := ()
def PySem.W.Fast.tw14984692500300128502 : Unit := ()
def PySem.W.Fast.tw4557507587157602976 : Unit := ()
def PySem.W.Fast.tw14020796884801509602 : Unit := ()
def PySem.W.Fast.tw4699205537095313444 : Unit := ()
def PySem.W.Fast.tw3436687832833049684 : Unit := ()
def PySem.W.Fast.tw5264868710502828802 : Unit := ()
def PySem.W.Fast.tw1002146806531671893 : Unit := ()
def PySem.W.Fast.tw9603649386958267033 : Unit := ()
def PySem.W.Fast.tw9233811459683187958 : Unit := ()
def PySem.W.Fast.tw11885832860933258821 : Unit := ()
def PySem.W.Fast.tw5534559511989452565 : Unit := ()
def PySem.W.Fast.tw14634758923755834329 : Unit := ()
def PySem.W.Fast.tw5091360332845454468 : Unit := ()
def PySem.W.Fast.tw9655994389636026746 : Unit := ()
def PySem.W.Fast.tw10027609735599564016 : Unit := ()
def PySem.W.Fast.tw14286387611105608139 : Unit := ()
def PySem.W.Fast.tw5193775576360171824 : Unit := ()
def PySem.W.Fast.tw8944488669786044872 : Unit := ()
def PySem.W.Fast.tw4851317313056421855 : Unit := ()
def PySem.W.Fast.tw124173610102665098 : Unit := ()
def PySem.W.Fast.tw1278822724899601562 : Unit := ()
def PySem.W.Fast.tw5026890738931863262 : Unit := ()
def PySem.W.Fast.tw11878951464481750595 : Unit := ()
def PySem.W.Fast.tw14982170135506668339 : Unit := ()
def PySem.W.Fast.tw864869321505773806 : Unit := ()
def PySem.W.Fast.tw13899503351969727920 : Unit := ()
def PySem.W.Fast.tw5278687864676142149 : Unit := ()
def PySem.W.Fast.tw11939653061892820820 : Unit := ()
def PySem.W.Fast.tw2900521039268299932 : Unit := ()
def PySem.W.Fast.tw11736951677607216276 : Unit := ()
def PySem.W.Fast.tw17489266885951950546 : Unit := ()
def PySem.W.Fast.tw7272603515014165964 : Unit := ()
def PySem.W.Fast.tw10202557176621315680 : Unit := ()
def PySem.W.Fast.tw11379229492175076893 : Unit := ()
def PySem.W.Fast.tw6901534794865704198 : Unit := ()
def PySem.W.Fast.tw7600211329622640819 : Unit := ()
def PySem.W.Fast.tw10898886149904447495 : Unit := ()
def PySem.W.Fast.tw9204683227263039368 : Unit := ()
def PySem.W.Fast.tw8661659000524928460 : Unit := ()
def PySem.W.Fast.tw5339201538677083552 : Unit := ()
def PySem.W.Fast.tw17267835022919764564 : Unit := ()
def PySem.W.Fast.tw12360924631507725470 : Unit := ()
def PySem.W.Fast.tw17493961571543129429 : Unit := ()
def PySem.W.Fast.tw5015638748808956665 : Unit := ()
def PySem.W.Fast.tw16394384473340867717 : Unit := ()
def PySem.W.Fast.tw4569115510161976377 : Unit := ()
def PySem.W.Fast.tw168796986463748097 : Unit := ()
open PySem PySem.W PyProof.Rows
set_option maxRecDepth 100000 in
set_option maxHeartbeats 0 in
theorem PySem.Challenge.cw_leastmiss_k64_least_rows_walked_holds : PySem.Challenge.rw_leastmiss_k64_least_rows_walked.Holds := by
  w_on; o_law; k_head; (case hw => w_witness2)
  k_fill
  refine Lx.walkB (l := PySem.Challenge.rw_leastmiss_k64_least_rows_walked) (k := 11) rfl rfl ⟨rfl, by decide, by decide⟩ (fun w h Y => PySem.W.kIn_of Y) ?F
  case F =>
    intro w mg fa h KX G hmg
    refine' My.all_mk KX G hmg ?a0 ?l0 ?c0 ?k0 ?a1 ?l1 ?c1 ?k1 ?a2 ?l2 ?c2 ?k2 ?a3 ?l3 ?c3 ?k3 ?a4 ?l4 ?c4 ?k4 ?a5 ?l5 ?c5 ?k5 ?a6 ?l6 ?c6 ?k6 ?a7 ?l7 ?c7 ?k7 ?a8 ?l8 ?c8 ?k8 ?a9 ?l9 ?c9 ?k9 ?a10 ?l10 ?c10 ?k10 ?a11 ?l11 ?c11 ?k11 ?a12 ?l12 ?c12 ?k12 ?a13 ?l13 ?c13 ?k13 ?a14 ?l14 ?c14 ?k14 ?a15 ?l15 ?c15 ?k15 ?a16 ?l16 ?c16 ?k16 ?a17 ?l17 ?c17 ?k17 ?a18 ?l18 ?c18 ?k18 ?a19 ?l19 ?c19 ?k19 ?a20 ?l20 ?c20 ?k20 ?a21 ?l21 ?c21 ?k21 ?a22 ?l22 ?c22 ?k22 ?a23 ?l23 ?c23 ?k23 ?a24 ?l24 ?c24 ?k24 ?a25 ?l25 ?c25 ?k25 ?a26 ?l26 ?c26 ?k26 ?a27 ?l27 ?c27 ?k27 ?a28 ?l28 ?c28 ?k28 ?a29 ?l29 ?c29 ?k29 ?a30 ?l30 ?c30 ?k30 ?a31 ?l31 ?c31 ?k31 ?a32 ?l32 ?c32 ?k32 ?a33 ?l33 ?c33 ?k33 ?a34 ?l34 ?c34 ?k34 ?a35 ?l35 ?c35 ?k35 ?a36 ?l36 ?c36 ?k36 ?a37 ?l37 ?c37 ?k37 ?a38 ?l38 ?c38 ?k38 ?a39 ?l39 ?c39 ?k39 ?a40 ?l40 ?c40 ?k40 ?a41 ?l41 ?c41 ?k41 ?a42 ?l42 ?c42 ?k42 ?ax_NoNumber ?xx_NoNumber ?ax_NoKind ?xx_NoKind ?z_a ?z_abs ?z_b ?z_bool ?z_enumerate ?z_first ?z_h ?z_height ?z_int ?z_isinstance ?z_last ?z_len ?z_list ?z_mark ?z_max ?z_min ?z_miss ?z_one ?z_pair ?z_range ?z_some ?z_str ?z_sum ?z_tuple ?z_w ?z_weight ?z_zip ?zc_KINDS ?lk_KINDS ?zc_MOST_STEPS ?zc_NOUGHT ?lk_NOUGHT
    (case a0 => k_is)
    (case l0 => k_is)
    (case c0 => k_is)
    (case k0 => k_is)
    (case a1 => k_is)
    (case l1 => k_is)
    (case c1 => k_is)
    (case k1 => k_is)
    (case a2 => k_is)
    (case l2 => k_is)
    (case c2 => k_is)
    (case k2 => k_is)
    (case a3 => k_is)
    (case l3 => k_is)
    (case c3 => k_is)
    (case k3 => k_is)
    (case a4 => k_is)
    (case l4 => k_is)
    (case c4 => k_is)
    (case k4 => k_is)
    (case a5 => k_is)
    (case l5 => k_is)
    (case c5 => k_is)
    (case k5 => k_is)
    (case a6 => k_is)
    (case l6 => k_is)
    (case c6 => k_is)
    (case k6 => k_is)
    (case a7 => k_is)
    (case l7 => k_is)
    (case c7 => k_is)
    (case k7 => k_is)
    (case a8 => k_is)
    (case l8 => k_is)
    (case c8 => k_is)
    (case k8 => k_is)
    (case a9 => k_is)
    (case l9 => k_is)
    (case c9 => k_is)
    (case k9 => k_is)
    (case a10 => k_is)
    (case l10 => k_is)
    (case c10 => k_is)
    (case k10 => k_is)
    (case a11 => k_is)
    (case l11 => k_is)
    (case c11 => k_is)
    (case k11 => k_is)
    (case a12 => k_is)
    (case l12 => k_is)
    (case c12 => k_is)
    (case k12 => k_is)
    (case a13 => k_is)
    (case l13 => k_is)
    (case c13 => k_is)
    (case k13 => k_is)
    (case a14 => k_is)
    (case l14 => k_is)
    (case c14 => k_is)
    (case k14 => k_is)
    (case a15 => k_is)
    (case l15 => k_is)
    (case c15 => k_is)
    (case k15 => k_is)
    (case a16 => k_is)
    (case l16 => k_is)
    (case c16 => k_is)
    (case k16 => k_is)
    (case a17 => k_is)
    (case l17 => k_is)
    (case c17 => k_is)
    (case k17 => k_is)
    (case a18 => k_is)
    (case l18 => k_is)
    (case c18 => k_is)
    (case k18 => k_is)
    (case a19 => k_is)
    (case l19 => k_is)
    (case c19 => k_is)
    (case k19 => k_is)
    (case a20 => k_is)
    (case l20 => k_is)
    (case c20 => k_is)
    (case k20 => k_is)
    (case a21 => k_is)
    (case l21 => k_is)
    (case c21 => k_is)
    (case k21 => k_is)
    (case a22 => k_is)
    (case l22 => k_is)
    (case c22 => k_is)
    (case k22 => k_is)
    (case a23 => k_is)
    (case l23 => k_is)
    (case c23 => k_is)
    (case k23 => k_is)
    (case a24 => k_is)
    (case l24 => k_is)
    (case c24 => k_is)
    (case k24 => k_is)
    (case a25 => k_is)
    (case l25 => k_is)
    (case c25 => k_is)
    (case k25 => k_is)
    (case a26 => k_is)
    (case l26 => k_is)
    (case c26 => k_is)
    (case k26 => k_is)
    (case a27 => k_is)
    (case l27 => k_is)
    (case c27 => k_is)
    (case k27 => k_is)
    (case a28 => k_is)
    (case l28 => k_is)
    (case c28 => k_is)
    (case k28 => k_is)
    (case a29 => k_is)
    (case l29 => k_is)
    (case c29 => k_is)
    (case k29 => k_is)
    (case a30 => k_is)
    (case l30 => k_is)
    (case c30 => k_is)
    (case k30 => k_is)
    (case a31 => k_is)
    (case l31 => k_is)
    (case c31 => k_is)
    (case k31 => k_is)
    (case a32 => k_is)
    (case l32 => k_is)
    (case c32 => k_is)
    (case k32 => k_is)
    (case a33 => k_is)
    (case l33 => k_is)
    (case c33 => k_is)
    (case k33 => k_is)
    (case a34 => k_is)
    (case l34 => k_is)
    (case c34 => k_is)
    (case k34 => k_is)
    (case a35 => k_is)
    (case l35 => k_is)
    (case c35 => k_is)
    (case k35 => k_is)
    (case a36 => k_is)
    (case l36 => k_is)
    (case c36 => k_is)
    (case k36 => k_is)
    (case a37 => k_is)
    (case l37 => k_is)
    (case c37 => k_is)
    (case k37 => k_is)
    (case a38 => k_is)
    (case l38 => k_is)
    (case c38 => k_is)
    (case k38 => k_is)
    (case a39 => k_is)
    (case l39 => k_is)
    (case c39 => k_is)
    (case k39 => k_is)
    (case a40 => k_is)
    (case l40 => k_is)
    (case c40 => k_is)
    (case k40 => k_is)
    (case a41 => k_is)
    (case l41 => k_is)
    (case c41 => k_is)
    (case k41 => k_is)
    (case a42 => k_is)
    (case l42 => k_is)
    (case c42 => k_is)
    (case k42 => k_is)
    (case ax_NoNumber => k_is)
    (case xx_NoNumber => k_exc)
    (case ax_NoKind => k_is)
    (case xx_NoKind => k_exc)
    (case z_a => k_is)
    (case z_abs => k_is)
    (case z_b => k_is)
    (case z_bool => k_is)
    (case z_enumerate => k_is)
    (case z_first => k_is)
    (case z_h => k_is)
    (case z_height => k_is)
    (case z_int => k_is)
    (case z_isinstance => k_is)
    (case z_last => k_is)
    (case z_len => k_is)
    (case z_list => k_is)
    (case z_mark => k_is)
    (case z_max => k_is)
    (case z_min => k_is)
    (case z_miss => k_is)
    (case z_one => k_is)
    (case z_pair => k_is)
    (case z_range => k_is)
    (case z_some => k_is)
    (case z_str => k_is)
    (case z_sum => k_is)
    (case z_tuple => k_is)
    (case z_w => k_is)
    (case z_weight => k_is)
    (case z_zip => k_is)
    (case zc_KINDS => k_is)
    (case lk_KINDS => k_is)
    (case zc_MOST_STEPS => k_is)
    (case zc_NOUGHT => k_is)
    (case lk_NOUGHT => k_is)
