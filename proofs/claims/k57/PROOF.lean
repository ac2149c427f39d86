import PyProof.Rows.All
import Wide.All
import OpenK.AllK
import Wide.FinOn
import Lean
import PyProof.EqAt
import PyProof.EqKinds
import PyProof.TupleCall
import PySem.Challenge.RW_leastmiss_k57_rise_shown
set_option Elab.async false
set_option linter.all false
set_option maxRecDepth 100000
set_option compiler.extract_closed false
namespace L2
open PySem PySem.Spec PyProof.Rows
noncomputable abbrev Key := Sum Int Str
noncomputable def keyIs : Key → Value → Bool
  | .inl k, v => Value.isInt k v
  | .inr x, v => Value.isStrOf x v
noncomputable def keyH (w : World) : Key → Int
  | .inl k => hashInt k
  | .inr x => hashStr w x
theorem keyIs_shape : ∀ {k : Key} {v : Value}, keyIs k v = true → (∃ i t, k = Sum.inl i ∧ v = Value.int i t) ∨ (∃ x t, k = Sum.inr x ∧ v = Value.str x t)
  | .inl i, v, h => by
    obtain ⟨t, e⟩ := Value.isInt_shape (k := i) (v := v) h
    exact .inl ⟨i, t, rfl, e⟩
  | .inr x, v, h => by
    obtain ⟨t, e⟩ := Value.isStrOf_shape (x := x) (v := v) h
    exact .inr ⟨x, t, rfl, e⟩
theorem key_ll (a b : Int) : decide ((Sum.inl a : Key) = Sum.inl b) = (a == b) := by
  by_cases e : a = b
  · subst e; simp
  · have h : ¬ (Sum.inl a : Key) = Sum.inl b := fun q => e (Sum.inl.inj q)
    rw [decide_eq_false h]
    exact (beq_eq_false_iff_ne.mpr e).symm
theorem key_rr (a b : Str) : decide ((Sum.inr a : Key) = Sum.inr b) = decide (a = b) := by
  by_cases e : a = b
  · subst e; simp
  · have h : ¬ (Sum.inr a : Key) = Sum.inr b := fun q => e (Sum.inr.inj q)
    rw [decide_eq_false h, decide_eq_false e]
theorem key_lr (a : Int) (b : Str) : decide ((Sum.inl a : Key) = Sum.inr b) = false := decide_eq_false (fun q => nomatch q)
theorem key_rl (a : Str) (b : Int) : decide ((Sum.inr a : Key) = Sum.inl b) = false := decide_eq_false (fun q => nomatch q)
noncomputable def mixKind (prog : Program) (w : World) : PySem.KeyKind prog w Key where
  is := keyIs
  hash := keyH w
  inj := fun v a b ha hb => by
    rcases keyIs_shape ha with ⟨i, t, rfl, rfl⟩ | ⟨x, t, rfl, rfl⟩
    · rcases keyIs_shape hb with ⟨j, u, rfl, e⟩ | ⟨y, u, rfl, e⟩
      · injection e with e1 _; rw [e1]
      · exact nomatch e
    · rcases keyIs_shape hb with ⟨j, u, rfl, e⟩ | ⟨y, u, rfl, e⟩
      · exact nomatch e
      · injection e with e1 _; rw [e1]
  byValue := fun k v h => by
    rcases keyIs_shape h with ⟨i, t, rfl, rfl⟩ | ⟨x, t, rfl, rfl⟩ <;> rfl
  pyHash := fun hv h => by
    rcases keyIs_shape hv with ⟨i, t, rfl, rfl⟩ | ⟨x, t, rfl, rfl⟩
    · exact wpAny_pyHash_int h
    · exact wpAny_pyHash_str h
  eqBool := fun hu hv h => by
    rcases keyIs_shape hu with ⟨i, t, rfl, rfl⟩ | ⟨x, t, rfl, rfl⟩
    · rcases keyIs_shape hv with ⟨j, u, rfl, rfl⟩ | ⟨y, u, rfl, rfl⟩
      · rw [key_ll] at h; exact wpAny_eqBool_int h
      · rw [key_lr] at h; exact SeqAt.EqAt.int_str i t y u _ _ _ _ h
    · rcases keyIs_shape hv with ⟨j, u, rfl, rfl⟩ | ⟨y, u, rfl, rfl⟩
      · rw [key_rl] at h; exact SeqAt.EqAt.str_int x t j u _ _ _ _ h
      · rw [key_rr] at h; exact wpAny_eqBool_str h
  «strs» := fun k x t v h => by
    rcases keyIs_shape h with ⟨i, u, rfl, e⟩ | ⟨y, u, rfl, e⟩
    · exact nomatch e
    · injection e with e1 _
      subst e1
      cases v <;> rfl
end L2
namespace L2
open PySem PySem.Spec PyProof.Rows
inductive V where
  | non | bl (b : Bool) | int (i : Int) | str (x : Str) | byt (b : Array UInt8) | flt (b : UInt64) | ref (a : Addr) | ty (n : String)
  deriving DecidableEq
noncomputable def RelV : V → Value → Prop
  | .non, u => u = Value.none
  | .bl b, u => u = Value.bool b
  | .int i, u => ∃ t, u = Value.int i t
  | .str x, u => ∃ t, u = Value.str x t
  | .byt b, u => ∃ t, u = Value.bytes b t
  | .flt b, u => ∃ t, u = Value.float b t
  | .ref a, u => u = Value.ref a
  | .ty n, u => u = Value.type n
noncomputable abbrev Vals : List V → List Value → Prop := Paired RelV
theorem Vals.length {xs : List V} {us : List Value} (r : Vals xs us) : xs.length = us.length := Paired.length r
theorem Vals.get : ∀ {xs : List V} {us : List Value} {i : Nat} {x : V}, Vals xs us → xs[i]? = some x → ∃ u, us[i]? = some u ∧ RelV x u
  | _, _, _, _, .nil, e => by simp at e
  | _, _, 0, _, .cons r _, e => by simp at e; subst e; exact ⟨_, rfl, r⟩
  | _, _, i + 1, x, .cons _ t, e => by
    obtain ⟨u, h1, h2⟩ := Vals.get (i := i) (x := x) t (by simpa using e)
    exact ⟨u, by simpa using h1, h2⟩
theorem Vals.set {x : V} {u : Value} (r : RelV x u) : ∀ {xs : List V} {us : List Value} (i : Nat), Vals xs us → Vals (xs.set i x) (us.set i u)
  | _, _, _, .nil => .nil
  | _, _, 0, .cons _ t => .cons r t
  | _, _, i + 1, .cons q t => .cons q (Vals.set r i t)
theorem Vals.append : ∀ {xs ys : List V} {us ws : List Value}, Vals xs us → Vals ys ws → Vals (xs ++ ys) (us ++ ws)
  | _, _, _, _, .nil, s => s
  | _, _, _, _, .cons r t, s => .cons r (Vals.append t s)
theorem Vals.take : ∀ {xs : List V} {us : List Value} (n : Nat), Vals xs us → Vals (xs.take n) (us.take n)
  | _, _, 0, _ => .nil
  | _, _, _ + 1, .nil => .nil
  | _, _, n + 1, .cons r t => .cons r (Vals.take n t)
theorem Vals.drop : ∀ {xs : List V} {us : List Value} (n : Nat), Vals xs us → Vals (xs.drop n) (us.drop n)
  | _, _, 0, r => r
  | _, _, _ + 1, .nil => .nil
  | _, _, n + 1, .cons _ t => Vals.drop n t
noncomputable def RelO : Option V → Option Value → Prop
  | some v, some u => RelV v u
  | none, none => True
  | _, _ => False
noncomputable def KV {κ : Type} : List (κ × V) → List (κ × Value) → Prop := Paired fun (p : κ × V) (q : κ × Value) => p.1 = q.1 ∧ RelV p.2 q.2
noncomputable def kV : Key → V
  | .inl i => .int i
  | .inr x => .str x
inductive HO where
    | lst (xs : List V)
    | tup (xs : List V)
    | dK (kvs : List (Key × V)) | dT (kvs : List (List Key × V))
    | set (S : Int → Bool) (n : Nat)
    | ins (C dx : Addr) (fs : List (Str × V))
    | own (x : Addr)
    | xd (fs : List (Str × V))
    | met (f x : Addr)
    | rng (lo hi : Int)
    | frz (o : Obj) (u : HO)
    | tbl (ps : Array Value)
    | ext (φ : Heap → Prop)
noncomputable abbrev Hp := Addr → Option HO
noncomputable def upd (H : Hp) (a : Addr) (o : HO) : Hp := fun b => if b = a then some o else H b
theorem upd_same {H : Hp} {a : Addr} {o : HO} : upd H a o a = some o := by unfold upd; rw [if_pos rfl]
theorem upd_ne {H : Hp} {a b : Addr} {o : HO} (h : b ≠ a) : upd H a o b = H b := by unfold upd; rw [if_neg h]
theorem ne_of_none {H : Hp} {a b : Addr} {o : HO} (h : H a = some o) (h' : H b = none) : a ≠ b := by
  intro e; subst e; rw [h] at h'; cases h'
section
variable (P : Program) (w : World)
noncomputable def ObjOk (H : Hp) (h : Heap) (a : Addr) : HO → Prop
  | .lst xs => xs.length ≤ sizeLine ∧ ∃ (its : List Value) (n : Nat), Vals xs its ∧ h.get? a = some { cls := .type "list", data := .seq its.toArray n }
  | .tup xs => xs.length ≤ sizeLine ∧ ∃ its : List Value, Vals xs its ∧ IsTup h a its.toArray
  | .dK kvs => kvs.length ≤ sizeLine ∧ (a == sysModules) = false ∧ ∃ vs, KV kvs vs ∧ h.DictOf (mixKind P w) a vs
  | .dT kvs => kvs.length ≤ sizeLine ∧ (a == sysModules) = false ∧ ∃ xs : List (List Key × Addr × Value),
      Paired (fun (p : List Key × V) (q : List Key × Addr × Value) => p.1 = q.1 ∧ H q.2.1 = some (.tup (p.1.map kV)) ∧ RelV p.2 q.2.2) kvs xs ∧
      ∃ o es ep, h.get? a = some o ∧ o.ExactDict ∧ o.data = .dict es ep ∧ es.toList = xs.map (entryOfKey (tupleKind (mixKind P w))) ∧ (xs.map (·.1)).Nodup
  | .set S n => h.SetOf (intKind P w) a S n
  | .ins C dx fs => H dx = some (.own a) ∧ fs.length ≤ 1000 ∧ dx ≠ a ∧ h.get? a = some (PySem.W.instObj C dx) ∧
      ∃ mA, h.Ns1 dx mA ∧ (∀ f, RelO (fs.lookup f) (mA f)) ∧ PySem.Within mA (fs.map (·.1))
  | .own _ => ∃ o, h.get? a = some o
  | .xd fs => ∃ mA, h.Ns1 a mA ∧ ∀ f, RelO (fs.lookup f) (mA f)
  | .rng lo hi => ∃ t u v, h.get? a = some { cls := .type "range", data := .fields #[.int lo t, .int hi u, .int 1 v] }
  | .frz o u => h.get? a = some o ∧ ObjOk H h a u
  | .tbl ps => h.get? a = some { cls := .none, data := .fields ps }
  | .met f x => h.get? a = some (PySem.W.methodObj (.ref f) (.ref x))
  | .ext φ => φ h ∧ (∃ o, h.get? a = some o) ∧ ∀ h1 h2 : Heap, φ h1 → (∀ o, h1.get? a = some o → h2.get? a = some o) → φ h2
noncomputable def HOk (H : Hp) (h : Heap) : Prop := ∀ a o, H a = some o → ObjOk P w H h a o
end
section
variable {P : Program} {w : World} {H H' : Hp} {h h' : Heap} {a : Addr} {o : HO}
theorem ObjOk.lt (x : ObjOk P w H h a o) : a < h.objs.size := by
  cases o with
  | lst xs => obtain ⟨_, _, _, _, e⟩ := x; exact Heap.lt_size e
  | tup xs => obtain ⟨_, _, _, p⟩ := x; exact p.lt
  | dK kvs => obtain ⟨_, _, _, _, o, _, _, e, _⟩ := x; exact Heap.lt_size e
  | dT kvs => obtain ⟨_, _, _, _, o, _, _, e, _⟩ := x; exact Heap.lt_size e
  | set S n => obtain ⟨o, _, _, _, e, _⟩ := x; exact Heap.lt_size e
  | ins C dx fs => obtain ⟨_, _, _, e, _⟩ := x; exact Heap.lt_size e
  | own y => obtain ⟨_, e⟩ := x; exact Heap.lt_size e
  | xd fs => obtain ⟨_, ⟨_, _, _, e, _⟩, _⟩ := x; exact Heap.lt_size e
  | rng lo hi => obtain ⟨_, _, _, e⟩ := x; exact Heap.lt_size e
  | frz ob u => obtain ⟨e, _⟩ := x; exact Heap.lt_size e
  | tbl ps => exact Heap.lt_size (show h.get? a = some _ from x)
  | met f y => exact Heap.lt_size (show h.get? a = some _ from x)
  | ext φ => obtain ⟨_, ⟨_, e⟩, _⟩ := x; exact Heap.lt_size e
theorem Paired.mapP {α β : Type} {F G : α → β → Prop} : ∀ {l₁ : List α} {l₂ : List β}, Paired F l₁ l₂ → (∀ a b, F a b → G a b) → Paired G l₁ l₂
  | _, _, .nil, _ => .nil
  | _, _, .cons r t, f => .cons (f _ _ r) (Paired.mapP t f)
theorem ObjOk.stay (x : ObjOk P w H h a o) (k : ∀ b u, (b = a ∨ H b = some (.own a)) → h.get? b = some u → h'.get? b = some u)
    (ho : ∀ b, H b = some (.own a) → H' b = some (.own a)) (ht : ∀ b xs, H b = some (.tup xs) → H' b = some (.tup xs)) : ObjOk P w H' h' a o := by
  induction o with
  | lst xs => obtain ⟨z, its, n, r, e⟩ := x; exact ⟨z, its, n, r, k _ _ (.inl rfl) e⟩
  | tup xs => obtain ⟨z, its, r, ob, e, c⟩ := x; exact ⟨z, its, r, ob, k _ _ (.inl rfl) e, c⟩
  | dK kvs => obtain ⟨z, y, vs, r, ob, es, ep, e, c⟩ := x; exact ⟨z, y, vs, r, ob, es, ep, k _ _ (.inl rfl) e, c⟩
  | dT kvs =>
    obtain ⟨z, y, xs, r, ob, es, ep, e, c⟩ := x
    exact ⟨z, y, xs, Paired.mapP r fun p q z => ⟨z.1, ht _ _ z.2.1, z.2.2⟩, ob, es, ep, k _ _ (.inl rfl) e, c⟩
  | set S n => obtain ⟨ob, es, ep, t, e, c⟩ := x; exact ⟨ob, es, ep, t, k _ _ (.inl rfl) e, c⟩
  | ins C dx fs =>
    obtain ⟨d, z, ne, e, mA, ⟨od, es, ep, e2, c⟩, r⟩ := x
    exact ⟨ho _ d, z, ne, k _ _ (.inl rfl) e, mA, ⟨od, es, ep, k _ _ (.inr d) e2, c⟩, r⟩
  | own y => obtain ⟨ob, e⟩ := x; exact ⟨ob, k _ _ (.inl rfl) e⟩
  | xd fs => obtain ⟨mA, ⟨od, es, ep, e, c⟩, r⟩ := x; exact ⟨mA, ⟨od, es, ep, k _ _ (.inl rfl) e, c⟩, r⟩
  | rng lo hi => obtain ⟨t, u, v, e⟩ := x; exact ⟨t, u, v, k _ _ (.inl rfl) e⟩
  | frz ob u ih => obtain ⟨e, q⟩ := x; exact ⟨k _ _ (.inl rfl) e, ih q⟩
  | tbl ps =>
    have e : h.get? a = some { cls := .none, data := .fields ps } := x
    show h'.get? a = some { cls := .none, data := .fields ps }
    exact k a _ (.inl rfl) e
  | met f y =>
    have e : h.get? a = some (PySem.W.methodObj (.ref f) (.ref y)) := x
    show h'.get? a = some (PySem.W.methodObj (.ref f) (.ref y))
    exact k a _ (.inl rfl) e
  | ext φ => obtain ⟨p, ⟨o, e⟩, st⟩ := x; exact ⟨st _ _ p fun o q => k _ _ (.inl rfl) q, ⟨o, k _ _ (.inl rfl) e⟩, st⟩
theorem HOk.lt (x : HOk P w H h) (e : H a = some o) : a < h.objs.size := (x a o e).lt
theorem HOk.fresh (x : HOk P w H h) (e : h.objs.size ≤ a) : H a = none := by
  cases q : H a with
  | none => rfl
  | some u => exact absurd (Nat.lt_of_lt_of_le (x.lt q) e) (Nat.lt_irrefl _)
theorem HOk.kept (x : HOk P w H h) (k : ∀ b u, h.get? b = some u → h'.get? b = some u) : HOk P w H h' := fun a o e =>
  (x a o e).stay (fun b u _ q => k b u q) (fun _ q => q) fun _ _ q => q
theorem HOk.laid (x : HOk P w H h) (k : ∀ b u, h.get? b = some u → h'.get? b = some u) (hp : h.objs.size ≤ a) (new : ObjOk P w (upd H a o) h' a o) : HOk P w (upd H a o) h' := fun b u e => by
  have hn := x.fresh hp
  by_cases hb : b = a
  · subst hb; rw [upd_same] at e; cases e; exact new
  · rw [upd_ne hb] at e
    exact (x b u e).stay (fun c v _ q => k c v q) (fun c q => by rw [upd_ne (ne_of_none q hn)]; exact q) fun c xs q => by rw [upd_ne (ne_of_none q hn)]; exact q
end
noncomputable def Rd (H : Hp) (a : Addr) (u : HO) : Prop := H a = some u ∨ ∃ o, H a = some (.frz o u)
theorem Rd.of {H : Hp} {a : Addr} {u : HO} (h : H a = some u) : Rd H a u := .inl h
theorem Rd.ok {P : Program} {w : World} {H : Hp} {h : Heap} {a : Addr} {u : HO} (r : Rd H a u) (x : HOk P w H h) : ObjOk P w H h a u := by
  rcases r with r | ⟨o, r⟩
  · exact x a u r
  · obtain ⟨_, q⟩ := x a _ r
    exact q
noncomputable def Mut : Option HO → Prop
  | some (.lst _) => True
  | some (.dK _) => True
  | some (.dT _) => True
  | some (.set _ _) => True
  | some (.ins _ _ _) => True
  | some (.ext _) => True
  | _ => False
section
variable {P : Program} {w : World} {H : Hp} {h h' : Heap} {x e : Addr} {o' : HO}
theorem HOk.write (ok : HOk P w H h) (mu : Mut (H x)) (he : e = x ∨ H e = some (.own x)) (k : ∀ b u, b ≠ e → h.get? b = some u → h'.get? b = some u) (heo : ∃ u, h'.get? e = some u)
    (new : ObjOk P w (upd H x o') h' x o') : HOk P w (upd H x o') h' := fun b u q => by
  have nown : ∀ c y, H c = some (.own y) → c ≠ x := fun c y r z => by subst z; rw [r] at mu; exact mu
  have ntup : ∀ c xs, H c = some (.tup xs) → c ≠ x := fun c xs r z => by subst z; rw [r] at mu; exact mu
  by_cases hb : b = x
  · subst hb; rw [upd_same] at q; cases q; exact new
  · rw [upd_ne hb] at q
    by_cases hbe : b = e
    · have q' : H b = some (.own x) := by
        rcases he with z | z
        · exact absurd (hbe.trans z) hb
        · rw [hbe]; exact z
      rw [q] at q'; cases q'
      obtain ⟨v, hv⟩ := heo
      exact ⟨v, by rw [hbe]; exact hv⟩
    · refine (ok b u q).stay (fun c v hc r => k c v ?_ r) (fun c r => by rw [upd_ne (nown c b r)]; exact r) fun c xs r => by rw [upd_ne (ntup c xs r)]; exact r
      rcases hc with rfl | hc
      · exact hbe
      · rintro rfl
        rcases he with z | z
        · exact nown c b hc z
        · rw [hc] at z; cases z; exact hb rfl
end
structure Un (fs ex : List Addr) (H H' : Hp) (h h' : Heap) : Prop where
  keep : ∀ b o, h.get? b = some o → H b = none → b ∉ fs → b ∉ ex → h'.get? b = some o
  slot : ∀ b o, h.get? b = some o → H b = none → b ∈ fs → b ∉ ex → ∃ sl, h'.get? b = some { o with slots := sl }
  free : ∀ b o, h.get? b = some o → H b = none → b ∉ ex → H' b = none
  there : ∀ b o, h.get? b = some o → b ∉ ex → ∃ o', h'.get? b = some o'
  tups : ∀ b xs, H b = some (.tup xs) → H' b = some (.tup xs)
  frzs : ∀ b o u, H b = some (.frz o u) → H' b = some (.frz o u)
  tbls : ∀ b ps, H b = some (.tbl ps) → ∃ more, H' b = some (.tbl (ps ++ more))
section
variable {fs fs' ex ex' : List Addr} {H H1 H2 : Hp} {h h1 h2 h' : Heap} {a x e : Addr} {o : HO}
theorem Un.any (u : Un fs ex H H1 h h1) {b : Addr} {ob : Obj} (q : h.get? b = some ob) (n : H b = none) (hx : b ∉ ex) : ∃ sl, h1.get? b = some { ob with slots := sl } := by
  by_cases hb : b ∈ fs
  · exact u.slot b ob q n hb hx
  · exact ⟨ob.slots, u.keep b ob q n hb hx⟩
theorem Un.trans (a : Un fs ex H H1 h h1) (b : Un fs ex H1 H2 h1 h2) : Un fs ex H H2 h h2 where
  keep := fun c ob q n hc hx => b.keep c ob (a.keep c ob q n hc hx) (a.free c ob q n hx) hc hx
  slot := fun c ob q n hc hx => by
    obtain ⟨sl, e1⟩ := a.slot c ob q n hc hx
    obtain ⟨sl', e2⟩ := b.slot c _ e1 (a.free c ob q n hx) hc hx
    exact ⟨sl', e2⟩
  free := fun c ob q n hx => by
    obtain ⟨o', e1⟩ := a.there c ob q hx
    exact b.free c o' e1 (a.free c ob q n hx) hx
  there := fun c ob q hx => by
    obtain ⟨o', e1⟩ := a.there c ob q hx
    exact b.there c o' e1 hx
  tups := fun c xs q => b.tups c xs (a.tups c xs q)
  frzs := fun c ob xs q => b.frzs c ob xs (a.frzs c ob xs q)
  tbls := fun c ps q => by
    obtain ⟨m1, e1⟩ := a.tbls c ps q
    obtain ⟨m2, e2⟩ := b.tbls c _ e1
    exact ⟨m1 ++ m2, by rw [e2, Array.append_assoc]⟩
theorem Un.kept (k : ∀ b u, h.get? b = some u → h'.get? b = some u) : Un fs ex H H h h' :=
  ⟨fun b ob q _ _ _ => k b ob q, fun b ob q _ _ _ => ⟨ob.slots, k b ob q⟩, fun _ _ _ n _ => n, fun b ob q _ => ⟨ob, k b ob q⟩, fun _ _ q => q, fun _ _ _ q => q, fun _ ps q => ⟨#[], by rw [q]; simp⟩⟩
theorem Un.refl : Un fs ex H H h h := Un.kept fun _ _ q => q
theorem Un.laid (k : ∀ b u, h.get? b = some u → h'.get? b = some u) (hp : h.objs.size ≤ a) (hn : H a = none) : Un fs ex H (upd H a o) h h' where
  keep := fun b u q _ _ _ => k b u q
  slot := fun b u q _ _ _ => ⟨u.slots, k b u q⟩
  free := fun b u q n _ => by rw [upd_ne (Nat.ne_of_lt (Nat.lt_of_lt_of_le (Heap.lt_size q) hp))]; exact n
  there := fun b u q _ => ⟨u, k b u q⟩
  tups := fun b xs q => by rw [upd_ne (ne_of_none q hn)]; exact q
  frzs := fun b u xs q => by rw [upd_ne (ne_of_none q hn)]; exact q
  tbls := fun b ps q => ⟨#[], by rw [upd_ne (ne_of_none q hn), q]; simp⟩
theorem Un.write (mu : Mut (H x)) (he : e = x ∨ H e = some (.own x)) (k : ∀ b u, b ≠ e → h.get? b = some u → h'.get? b = some u) (heo : ∃ u, h'.get? e = some u) : Un fs ex H (upd H x o) h h' := by
  have hx : ∀ b, H b = none → b ≠ x := fun b n z => by subst z; rw [n] at mu; exact mu
  have hb : ∀ b, H b = none → b ≠ e := fun b n z => by
    subst z
    rcases he with r | r
    · exact hx b n r
    · rw [n] at r; cases r
  have hm : ∀ b u, H b = some u → ¬ Mut (some u) → b ≠ x := fun b u q nm z => by subst z; rw [q] at mu; exact nm mu
  refine ⟨fun b u q n _ _ => k b u (hb b n) q, fun b u q n _ _ => ⟨u.slots, k b u (hb b n) q⟩, fun b u q n _ => by rw [upd_ne (hx b n)]; exact n, fun b u q _ => ?_,
    fun b xs q => by rw [upd_ne (hm b _ q fun z => z)]; exact q, fun b u xs q => by rw [upd_ne (hm b _ q fun z => z)]; exact q, fun b ps q => ⟨#[], by rw [upd_ne (hm b _ q fun z => z), q]; simp⟩⟩
  by_cases hbe : b = e
  · subst hbe; exact heo
  · exact ⟨u, k b u hbe q⟩
end
noncomputable def trk (h : Heap) (H : Hp) : List Addr := (List.range h.objs.size).filter fun a => (H a).isSome
noncomputable def hidT (h : Heap) (H : Hp) : Heap := PySem.W.hideAll h (trk h H)
theorem hidT_size (h : Heap) (H : Hp) : (hidT h H).objs.size = h.objs.size := PySem.W.hideAll_size _ _
theorem hidT_get {h : Heap} {H : Hp} {b : Addr} {o : Obj} (e : h.get? b = some o) (n : H b = none) : (hidT h H).get? b = some o :=
  PySem.W.hideAll_get _ e fun hm => by
    have q : (H b).isSome = true := (List.mem_filter.mp hm).2
    rw [n] at q; simp at q
theorem of_hidT {h : Heap} {H : Hp} {b : Addr} {o : Obj} (e : (hidT h H).get? b = some o) : h.get? b = some o ∧ H b = none := by
  have e' : h.get? b = some o := PySem.W.of_hideAll (trk h H) e
  refine ⟨e', ?_⟩
  cases q : H b with
  | none => rfl
  | some x =>
    have hm : b ∈ trk h H := List.mem_filter.mpr ⟨List.mem_range.mpr (Heap.lt_size e'), by simp [q]⟩
    have z : (hidT h H).get? b = none := PySem.W.hideAll_none (trk h H) hm
    rw [z] at e; cases e
noncomputable def allNews (g h : Heap) (L : Addr) : List (Addr × Obj) := (List.range h.objs.size).filterMap fun a => if a = L ∨ (g.get? a).isSome = true then none else (h.get? a).map fun o => (a, o)
noncomputable def rest (g h : Heap) (L d : Addr) : List (Addr × Obj) := (allNews g h L).filter fun p => decide (p.1 ≠ d)
end L2
namespace L2
open PySem PySem.Spec PyProof.Rows
structure Mod (K : PySem.W.Frag) (mg : Str → Option Value) (base : Heap) : Prop where
  kin : K.In base
  glob : base.Ns mainGlobals mg
  blt : ∃ mb, base.Ns builtinsNs mb ∧ ∀ x : Str, x ≠ "__name__" → mb x = bootBuiltins x
  nolimit : base.NoLimit
structure Cx where
  prog : Program
  w : World
  K : PySem.W.Frag
  mg : Str → Option Value
  base : Heap
  A : Around
  N : List Str
  s₀ : Shared
  H₀ : Hp
  env : Env
  outer : List Env
  stack : List Env
  ex : List Addr
  fn : Str → Bool
  calm : Bool
  pn : List (Addr × Obj)
  xe : Value → Shared → Prop
noncomputable def frs (l : List Env) : List Addr := l.filterMap (·.frame)
noncomputable abbrev Cx.fs (X : Cx) : List Addr := frs X.outer
noncomputable def Vis (sc : Scope) (x : Str) : Prop := sc.names.lookup x = some .local ∨ sc.names.lookup x = some .cell ∨ sc.names.lookup x = some .free
noncomputable def Loc (sc : Scope) (x : Str) : Prop := sc.names.lookup x = some .local ∨ sc.names.lookup x = some .cell
noncomputable def Look (env : Env) (h : Heap) (m : Str → Option Value) (x : Str) (u : Value) : Prop :=
  (env.kindOf x = some .local ∧ m x = some u) ∨ ((env.kindOf x = some .cell ∨ env.kindOf x = some .free) ∧ ∃ c, env.cells.lookup x = some c ∧ h.IsCell c (some u))
structure Cx.Ok (X : Cx) : Prop where
  mod : Mod X.K X.mg X.base
  kind : X.env.scope.kind = .function
  glob : X.env.globals = mainGlobals
  blt : X.env.builtins = builtinsNs
  above : X.s₀.heap.objs.size ≤ X.env.locals
  inj : ∀ x y c, X.env.cells.lookup x = some c → X.env.cells.lookup y = some c → x = y
  has : ∀ x, (X.env.kindOf x = some .cell ∨ X.env.kindOf x = some .free) → ∃ c, X.env.cells.lookup x = some c
  cab : ∀ x c, X.fn x = true → X.env.cells.lookup x = some c → X.s₀.heap.objs.size ≤ c
  hd : X.calm = true → X.A.handled = none
  frames : X.A.frames = some X.stack
  stk : X.stack = X.outer ∨ (X.stack = X.env :: X.outer ∧ X.env.frame = some X.env.locals)
  exf : ∀ b ∈ X.ex, b ≠ X.env.locals ∧ ∀ x c, X.env.cells.lookup x = some c → c ≠ b
  bs : ∀ b o, X.base.get? b = some o → X.s₀.heap.get? b = some o ∧ X.H₀ b = none
  bsz : X.base.objs.size ≤ X.s₀.heap.objs.size
  noex : ∀ b o, X.base.get? b = some o → b ∉ X.ex
  exfs : ∀ b ∈ X.ex, b ∉ X.fs
  funs : X.s₀.heap.FunFrames X.base X.outer
  frf : ∀ b ∈ X.fs, X.H₀ b = none
structure Inv (X : Cx) (pins : List (Addr × Obj)) (σ : List (Option V)) (H : Hp) (s : Shared) : Prop where
  ok : X.Ok
  os : s.os = X.s₀.os
  bare : AllBare s.gens
  base : Un X.fs X.ex X.H₀ H X.s₀.heap s.heap
  loc : ∃ m, s.heap.Ns X.env.locals m ∧ ∀ (i : Nat) (x : Str) (v : V), X.N[i]? = some x → σ[i]? = some (some v) → Vis X.env.scope x → ∃ u, RelV v u ∧ Look X.env s.heap m x u
  cell : ∀ x c, X.env.cells.lookup x = some c → ∃ v, s.heap.IsCell c v
  free : H X.env.locals = none
  freeC : ∀ x c, X.env.cells.lookup x = some c → H c = none
  pin : ∀ p ∈ X.pn ++ pins, s.heap.get? p.1 = some p.2 ∧ H p.1 = none ∧ p.1 ≠ X.env.locals ∧ p.1 ∉ X.fs ∧ ∀ v, p.2.data ≠ .cell v
  hok : HOk X.prog X.w H s.heap
  len : σ.length = X.N.length
section
variable {X : Cx} {pins : List (Addr × Obj)} {σ : List (Option V)} {H H' : Hp} {s : Shared} {h' : Heap}
theorem Cx.Ok.nofr (ok : X.Ok) {b : Addr} {o : Obj} (e : X.base.get? b = some o) : b ∉ X.fs := fun hb => by
  have := (ok.funs.mem hb).1
  rw [e] at this; cases this
theorem Inv.bs (I : Inv X pins σ H s) : ∀ b o, X.base.get? b = some o → s.heap.get? b = some o ∧ H b = none := fun b o e =>
  ⟨I.base.keep b o (I.ok.bs b o e).1 (I.ok.bs b o e).2 (I.ok.nofr e) (I.ok.noex b o e), I.base.free b o (I.ok.bs b o e).1 (I.ok.bs b o e).2 (I.ok.noex b o e)⟩
theorem Inv.bk (I : Inv X pins σ H s) : ∀ b o, X.base.get? b = some o → s.heap.get? b = some o := fun b o e => (I.bs b o e).1
theorem Inv.mod (I : Inv X pins σ H s) : Mod X.K X.mg X.base := I.ok.mod
theorem Inv.kIn (I : Inv X pins σ H s) : X.K.In s.heap := I.ok.mod.kin.keeps I.bk
theorem Inv.nolimit (I : Inv X pins σ H s) : s.heap.NoLimit := I.ok.mod.nolimit.keeps I.bk
theorem Inv.fr (I : Inv X pins σ H s) : ∃ m, Fr X.base X.env.locals s.heap m :=
  let ⟨m, hn, _⟩ := I.loc
  ⟨m, hn, I.bk, Nat.le_trans I.ok.bsz I.ok.above⟩
theorem Inv.lt (I : Inv X pins σ H s) : X.env.locals < s.heap.objs.size := let ⟨_, hn, _⟩ := I.loc; hn.lt
theorem Inv.sz (I : Inv X pins σ H s) : X.s₀.heap.objs.size ≤ s.heap.objs.size := Nat.le_trans I.ok.above (Nat.le_of_lt I.lt)
theorem Inv.nofs (I : Inv X pins σ H s) {a : Addr} (h : s.heap.objs.size ≤ a) : a ∉ X.fs := fun hb => by
  obtain ⟨_, o, ho, _⟩ := I.ok.funs.mem hb
  exact absurd (Nat.lt_of_lt_of_le (Heap.lt_size ho) (Nat.le_trans I.sz h)) (Nat.lt_irrefl _)
theorem Inv.cne (I : Inv X pins σ H s) : ∀ x c, X.env.cells.lookup x = some c → c ≠ X.env.locals := fun x c e z => by
  obtain ⟨v, o, ho, hd⟩ := I.cell x c e
  obtain ⟨m, ⟨o', es, ep, ho', hd', _⟩, _⟩ := I.loc
  rw [z, ho'] at ho; cases ho; rw [hd'] at hd; cases hd
theorem Inv.funs (I : Inv X pins σ H s) : s.heap.FunFrames X.base X.outer := by
  have all : ∀ (l : List Env), (∀ b ∈ frs l, b ∈ X.fs) → X.s₀.heap.FunFrames X.base l → s.heap.FunFrames X.base l := by
    intro l
    induction l with
    | nil => intro _ _; trivial
    | cons env r ih =>
      intro hs hl
      obtain ⟨hk, ⟨L, o, hf, hn, ho, hd⟩, hr⟩ := hl
      have hL : L ∈ X.fs := hs L (by unfold frs; rw [List.filterMap_cons, hf]; exact List.mem_cons_self)
      obtain ⟨sl, e⟩ := I.base.slot L o ho (I.ok.frf L hL) hL fun z => I.ok.exfs L z hL
      exact ⟨hk, ⟨L, _, hf, hn, e, hd⟩, ih (fun b hb => hs b (by unfold frs; rw [List.filterMap_cons, hf]; exact List.mem_cons_of_mem _ hb)) hr⟩
  exact all X.outer (fun _ hb => hb) I.ok.funs
theorem Inv.stack (I : Inv X pins σ H s) : s.heap.FunFrames X.base X.stack := by
  rcases I.ok.stk with e | ⟨e, hf⟩
  · rw [e]; exact I.funs
  · rw [e]
    obtain ⟨m, hn, _⟩ := I.loc
    refine .cons (by rw [I.ok.kind]; decide) hf hn ?_ I.funs
    exact Heap.get?_none_of_le (Nat.le_trans I.ok.bsz I.ok.above)
theorem Inv.stkSub (I : Inv X pins σ H s) : ∀ b ∈ frs X.stack, b ∈ X.env.locals :: X.fs := fun b hb => by
  rcases I.ok.stk with e | ⟨e, hf⟩
  · rw [e] at hb; exact List.mem_cons_of_mem _ hb
  · rw [e] at hb
    unfold frs at hb
    rw [List.filterMap_cons, hf] at hb
    exact hb
theorem Inv.stkFree (I : Inv X pins σ H s) : ∀ b ∈ frs X.stack, H b = none := fun b hb => by
  rcases List.mem_cons.mp (I.stkSub b hb) with e | hb
  · rw [e]; exact I.free
  · obtain ⟨_, o, ho, _⟩ := I.ok.funs.mem hb
    exact I.base.free b o ho (I.ok.frf b hb) fun z => I.ok.exfs b z hb
theorem Inv.step {g' : Array GenState} {t' : Nat} {d' : Drawn} {ch : List Addr} (I : Inv X pins σ H s)
    (hch : ∀ b ∈ ch, (b ∈ X.ex ∨ X.s₀.heap.objs.size ≤ b) ∧ b ≠ X.env.locals ∧ (∀ x c, X.env.cells.lookup x = some c → c ≠ b) ∧ ∀ p ∈ X.pn ++ pins, p.1 ≠ b)
    (keep : ∀ b o, b ≠ X.env.locals → b ∉ X.fs → b ∉ ch → s.heap.get? b = some o → H b = none → h'.get? b = some o)
    (slot : ∀ b o, b ≠ X.env.locals → b ∈ X.fs → b ∉ ch → s.heap.get? b = some o → H b = none → ∃ sl, h'.get? b = some { o with slots := sl }) (free : ∀ b o, b ∉ ch → s.heap.get? b = some o → H b = none → H' b = none)
    (there : ∀ b o, b ∉ ch → s.heap.get? b = some o → ∃ o', h'.get? b = some o')
    (tups : ∀ b xs, H b = some (.tup xs) → H' b = some (.tup xs)) (frzs : ∀ b o u, H b = some (.frz o u) → H' b = some (.frz o u)) (tbls : ∀ b ps, H b = some (.tbl ps) → ∃ more, H' b = some (.tbl (ps ++ more)))
    (ns : ∀ m, s.heap.Ns X.env.locals m → h'.Ns X.env.locals m) (hok : HOk X.prog X.w H' h') (hg : AllBare g') :
    Inv X pins σ H' { s with heap := h', gens := g', drawn := d', toks := t' } := by
  have neL : ∀ b o, X.s₀.heap.get? b = some o → b ≠ X.env.locals := fun b o e => Nat.ne_of_lt (Nat.lt_of_lt_of_le (Heap.lt_size e) I.ok.above)
  have neC : ∀ b o, X.s₀.heap.get? b = some o → b ∉ X.ex → b ∉ ch := fun b o e hx hb => by
    rcases (hch b hb).1 with z | z
    · exact hx z
    · exact absurd (Nat.lt_of_lt_of_le (Heap.lt_size e) z) (Nat.lt_irrefl _)
  have cellK : ∀ x c, X.env.cells.lookup x = some c → ∀ v, s.heap.IsCell c v → h'.IsCell c v := fun x c e v ⟨o, ho, hd⟩ => by
    have nch : c ∉ ch := fun z => (hch c z).2.2.1 x c e rfl
    by_cases hc : c ∈ X.fs
    · obtain ⟨sl, q⟩ := slot c o (I.cne x c e) hc nch ho (I.freeC x c e)
      exact ⟨_, q, hd⟩
    · exact ⟨o, keep c o (I.cne x c e) hc nch ho (I.freeC x c e), hd⟩
  refine ⟨I.ok, I.os, hg, ⟨fun b o e n hb hx => ?_, fun b o e n hb hx => ?_, fun b o e n hx => ?_, fun b o e hx => ?_, fun b xs e => tups b xs (I.base.tups b xs e), fun b o xs e => frzs b o xs (I.base.frzs b o xs e), fun b ps e => ?_⟩, ?_, fun x c e => ?_, ?_, fun x c e => ?_, fun p hp => ?_, hok, I.len⟩
  · exact keep b o (neL b o e) hb (neC b o e hx) (I.base.keep b o e n hb hx) (I.base.free b o e n hx)
  · obtain ⟨sl, e1⟩ := I.base.slot b o e n hb hx
    obtain ⟨sl', e2⟩ := slot b _ (neL b o e) hb (neC b o e hx) e1 (I.base.free b o e n hx)
    exact ⟨sl', e2⟩
  · obtain ⟨o', e1⟩ := I.base.there b o e hx
    exact free b o' (neC b o e hx) e1 (I.base.free b o e n hx)
  · obtain ⟨o', e1⟩ := I.base.there b o e hx
    exact there b o' (neC b o e hx) e1
  · obtain ⟨m1, e1⟩ := I.base.tbls b ps e
    obtain ⟨m2, e2⟩ := tbls b _ e1
    exact ⟨m1 ++ m2, by rw [e2, Array.append_assoc]⟩
  · obtain ⟨m, hn, hl⟩ := I.loc
    refine ⟨m, ns m hn, fun i x v e1 e2 e3 => ?_⟩
    obtain ⟨u, r, l⟩ := hl i x v e1 e2 e3
    refine ⟨u, r, ?_⟩
    rcases l with l | ⟨k, c, e, z⟩
    · exact .inl l
    · exact .inr ⟨k, c, e, cellK x c e _ z⟩
  · obtain ⟨v, z⟩ := I.cell x c e
    exact ⟨v, cellK x c e v z⟩
  · obtain ⟨m, ⟨o, _, _, ho, _⟩, _⟩ := I.loc
    exact free _ o (fun z => (hch _ z).2.1 rfl) ho I.free
  · obtain ⟨v, o, ho, hd⟩ := I.cell x c e
    exact free c o (fun z => (hch c z).2.2.1 x c e rfl) ho (I.freeC x c e)
  · obtain ⟨e, n, ne, nf, d⟩ := I.pin p hp
    have nch : p.1 ∉ ch := fun z => (hch p.1 z).2.2.2 p hp rfl
    exact ⟨keep p.1 p.2 ne nf nch e n, free p.1 p.2 nch e n, ne, nf, d⟩
theorem Inv.un {t' : Nat} (I : Inv X pins σ H s) (u : Un X.fs [] H H' s.heap h') (hok : HOk X.prog X.w H' h') : Inv X pins σ H' { s with heap := h', toks := t' } := by
  obtain ⟨m, ⟨o, es, ep, ho, r⟩, _⟩ := id I.loc
  obtain ⟨sl, hL⟩ := u.any ho I.free (by simp)
  exact I.step (g' := s.gens) (d' := s.drawn) (ch := []) (fun _ z => nomatch z) (fun b o _ hb _ e n => u.keep b o e n hb (by simp)) (fun b o _ hb _ e n => u.slot b o e n hb (by simp)) (fun b o _ e n => u.free b o e n (by simp)) (fun b o _ e => u.there b o e (by simp)) u.tups u.frzs u.tbls (fun m' hm => by
    obtain ⟨o', es', ep', ho', r'⟩ := hm
    rw [ho] at ho'; cases ho'
    exact ⟨_, es', ep', hL, r'⟩) hok I.bare
theorem Inv.call {g' : Array GenState} {t' : Nat} {d' : Drawn} {ch : List Addr} (I : Inv X pins σ H s) (u : Un (frs X.stack) ch H H' s.heap h') (hok : HOk X.prog X.w H' h') (hg : AllBare g')
    (hch : ∀ b ∈ ch, (b ∈ X.ex ∨ X.s₀.heap.objs.size ≤ b) ∧ b ≠ X.env.locals ∧ (∀ x c, X.env.cells.lookup x = some c → c ≠ b) ∧ ∀ p ∈ X.pn ++ pins, p.1 ≠ b) :
    Inv X pins σ H' { s with heap := h', gens := g', drawn := d', toks := t' } := by
  obtain ⟨m, ⟨o, es, ep, ho, r⟩, _⟩ := id I.loc
  obtain ⟨sl, hL⟩ := u.any ho I.free fun z => (hch _ z).2.1 rfl
  exact I.step (ch := ch) hch (fun b o hL hb hc e n => u.keep b o e n (fun z => (List.mem_cons.mp (I.stkSub b z)).elim hL hb) hc) (fun b o _ _ hc e n => u.any e n hc) (fun b o hc e n => u.free b o e n hc) (fun b o hc e => u.there b o e hc) u.tups u.frzs u.tbls (fun m' hm => by
    obtain ⟨o', es', ep', ho', r'⟩ := hm
    rw [ho] at ho'; cases ho'
    exact ⟨_, es', ep', hL, r'⟩) hok hg
theorem Inv.turned {t' : Nat} {it : Addr} (I : Inv X pins σ H s) (k : ∀ b o, b ≠ it → s.heap.get? b = some o → h'.get? b = some o) (hn : H it = none) (hL : it ≠ X.env.locals)
    (h1 : it ∈ X.ex ∨ X.s₀.heap.objs.size ≤ it) (h2 : ∀ x c, X.env.cells.lookup x = some c → c ≠ it) (h3 : ∀ p ∈ X.pn ++ pins, p.1 ≠ it) : Inv X pins σ H { s with heap := h', toks := t' } := by
  have nit : ∀ b u, H b = some u → b ≠ it := fun b u e z => by rw [z, hn] at e; cases e
  refine I.step (g' := s.gens) (d' := s.drawn) (ch := [it]) (fun b hb => ?_) (fun b o _ _ hc e _ => k b o (fun z => hc (by simp [z])) e) (fun b o _ _ hc e _ => ⟨o.slots, k b o (fun z => hc (by simp [z])) e⟩) (fun _ _ _ _ n => n)
    (fun b o hc e => ⟨o, k b o (fun z => hc (by simp [z])) e⟩) (fun _ _ e => e) (fun _ _ _ e => e) (fun b ps e => ⟨#[], by rw [e]; simp⟩) (fun m hm => ?_) (fun b u e => ?_) I.bare
  · have e : b = it := by simpa using hb
    subst e
    exact ⟨h1, hL, h2, h3⟩
  · obtain ⟨o, es, ep, ho, r⟩ := hm
    exact ⟨o, es, ep, k _ o (Ne.symm hL) ho, r⟩
  · refine (I.hok b u e).stay (fun c v hc q => k c v ?_ q) (fun _ q => q) fun _ _ q => q
    rcases hc with z | z
    · rw [z]; exact nit b u e
    · exact nit c _ z
theorem Inv.tok (I : Inv X pins σ H s) (t : Nat) : Inv X pins σ H { s with toks := t } := I.un (h' := s.heap) (t' := t) Un.refl I.hok
theorem Inv.kept {t' : Nat} (I : Inv X pins σ H s) (k : ∀ b u, s.heap.get? b = some u → h'.get? b = some u) : Inv X pins σ H { s with heap := h', toks := t' } := I.un (Un.kept k) (I.hok.kept k)
theorem Inv.laid {a : Addr} {o : HO} {t' : Nat} (I : Inv X pins σ H s) (k : ∀ b u, s.heap.get? b = some u → h'.get? b = some u) (hp : s.heap.objs.size ≤ a) (new : ObjOk X.prog X.w (upd H a o) h' a o) :
    Inv X pins σ (upd H a o) { s with heap := h', toks := t' } := I.un (Un.laid k hp (I.hok.fresh hp)) (I.hok.laid k hp new)
theorem Inv.write {x e : Addr} {o : HO} {t' : Nat} (I : Inv X pins σ H s) (mu : Mut (H x)) (he : e = x ∨ H e = some (.own x)) (k : ∀ b u, b ≠ e → s.heap.get? b = some u → h'.get? b = some u) (heo : ∃ u, h'.get? e = some u)
    (new : ObjOk X.prog X.w (upd H x o) h' x o) : Inv X pins σ (upd H x o) { s with heap := h', toks := t' } := I.un (Un.write mu he k heo) (I.hok.write mu he k heo new)
theorem Inv.pins_of {pins' : List (Addr × Obj)} (I : Inv X pins σ H s) (h : ∀ p ∈ pins', s.heap.get? p.1 = some p.2 ∧ H p.1 = none ∧ p.1 ≠ X.env.locals ∧ p.1 ∉ X.fs ∧ ∀ v, p.2.data ≠ .cell v) : Inv X pins' σ H s :=
  ⟨I.ok, I.os, I.bare, I.base, I.loc, I.cell, I.free, I.freeC, fun p hp => (List.mem_append.mp hp).elim (fun z => I.pin p (List.mem_append_left _ z)) (h p), I.hok, I.len⟩
theorem nodup_ix {N : List Str} (hN : N.Nodup) {i j : Nat} {x : Str} (a : N[i]? = some x) (b : N[j]? = some x) : i = j := by
  obtain ⟨h1, e1⟩ := List.getElem?_eq_some_iff.mp a
  obtain ⟨h2, e2⟩ := List.getElem?_eq_some_iff.mp b
  exact (List.getElem_inj hN).mp (e1.trans e2.symm)
theorem store_ok2 {M : Model} {A : Around} {E : Value → Shared → Prop} {i : Nat} {x : Str} {v : V} {u : Value} {Q : Unit → Shared → Prop} (I : Inv X pins σ H s) (hN : X.N.Nodup) (hi : X.N[i]? = some x) (hx : Loc X.env.scope x) (r : RelV v u)
    (h : ∀ s', Inv X pins (σ.set i (some v)) H s' → (∃ a, Heap.SameBut a s.heap s'.heap ∧ (a = X.env.locals ∨ X.env.cells.lookup x = some a)) → Q () s') (hf : X.fn x = true ∨ X.env.scope.names.lookup x = some .local := by first | exact .inl rfl | exact .inr rfl | assumption) : wpAny M A (storeName X.env x u) Q E s := by
  obtain ⟨m, hn, hl⟩ := id I.loc
  have hcls : (X.env.scope.kind == .class || (X.env.scope.kind == .module && X.env.locals != X.env.globals)) = false := by rw [I.ok.kind]; rfl
  have hiσ : i < σ.length := by rw [I.len]; exact (List.getElem?_eq_some_iff.mp hi).1
  have cne := I.cne
  have tracked : ∀ {a : Addr} {h' : Heap}, (∃ o, s.heap.get? a = some o ∧ H a = none) → Heap.SameBut a s.heap h' → HOk X.prog X.w H h' := fun {a h'} ha hs b ob e => by
    obtain ⟨_, _, hfree⟩ := ha
    refine (I.hok b ob e).stay (fun c w' hc q => (hs.2 c ?_).trans q) (fun _ q => q) fun _ _ q => q
    rintro rfl
    rcases hc with rfl | hc
    · rw [hfree] at e; cases e
    · rw [hfree] at hc; cases hc
  rcases hx with hk | hk
  · refine wpAny_storeName_local hk hn (fun h' hn' hs => ?_) hcls
    obtain ⟨oL, _, _, hoL, _⟩ := id hn
    refine h _ ⟨I.ok, I.os, I.bare, ⟨fun b o e n hb hx => ?_, fun b o e n hb hx => ?_, I.base.free, fun b o e hx => ?_, I.base.tups, I.base.frzs, I.base.tbls⟩, ⟨_, hn', fun j y v' e1 e2 e3 => ?_⟩, fun y c e => ?_, I.free, I.freeC, fun p hp => ?_, tracked ⟨oL, hoL, I.free⟩ hs, by simpa using I.len⟩ ⟨_, hs, .inl rfl⟩
    · exact (hs.2 b (Nat.ne_of_lt (Nat.lt_of_lt_of_le (Heap.lt_size e) I.ok.above))).trans (I.base.keep b o e n hb hx)
    · obtain ⟨sl, e1⟩ := I.base.slot b o e n hb hx
      exact ⟨sl, (hs.2 b (Nat.ne_of_lt (Nat.lt_of_lt_of_le (Heap.lt_size e) I.ok.above))).trans e1⟩
    · obtain ⟨o', e1⟩ := I.base.there b o e hx
      exact ⟨o', (hs.2 b (Nat.ne_of_lt (Nat.lt_of_lt_of_le (Heap.lt_size e) I.ok.above))).trans e1⟩
    · by_cases hj : j = i
      · subst hj
        rw [hi] at e1; cases e1
        rw [List.getElem?_set_self hiσ] at e2
        cases e2
        exact ⟨u, r, .inl ⟨hk, by simp⟩⟩
      · rw [List.getElem?_set_ne (Ne.symm hj)] at e2
        obtain ⟨u', r', q⟩ := hl j y v' e1 e2 e3
        refine ⟨u', r', ?_⟩
        rcases q with ⟨k, e⟩ | ⟨k, c, e, z⟩
        · refine .inl ⟨k, ?_⟩
          have : y ≠ x := fun e => hj (nodup_ix hN e1 (e ▸ hi))
          simp [this, e]
        · exact .inr ⟨k, c, e, z.sameBut hs (cne y c e)⟩
    · obtain ⟨w', z⟩ := I.cell y c e
      exact ⟨w', z.sameBut hs (cne y c e)⟩
    · obtain ⟨e, n, ne, nf, d⟩ := I.pin p hp
      exact ⟨(hs.2 p.1 ne).trans e, n, ne, nf, d⟩
  · have hfn : X.fn x = true := by
      rcases hf with z | z
      · exact z
      · rw [z] at hk; cases hk
    obtain ⟨c, hc⟩ := I.ok.has x (.inl hk)
    obtain ⟨w', z⟩ := I.cell x c hc
    refine wpAny_storeName_cell I.ok.kind hk hc z (fun h' hc' hs => ?_)
    obtain ⟨oc, hoc, hocd⟩ := id z
    refine h { s with heap := h' } ⟨I.ok, I.os, I.bare, ⟨fun b o e n hb hx => ?_, fun b o e n hb hx => ?_, I.base.free, fun b o e hx => ?_, I.base.tups, I.base.frzs, I.base.tbls⟩, ⟨m, hn.sameBut hs (Ne.symm (cne x c hc)), fun j y v' e1 e2 e3 => ?_⟩, fun y c' e => ?_, I.free, I.freeC, fun p hp => ?_, tracked ⟨oc, hoc, I.freeC x c hc⟩ hs, by simpa using I.len⟩ ⟨c, hs, .inr hc⟩
    · exact (hs.2 b (Nat.ne_of_lt (Nat.lt_of_lt_of_le (Heap.lt_size e) (I.ok.cab x c hfn hc)))).trans (I.base.keep b o e n hb hx)
    · obtain ⟨sl, e1⟩ := I.base.slot b o e n hb hx
      exact ⟨sl, (hs.2 b (Nat.ne_of_lt (Nat.lt_of_lt_of_le (Heap.lt_size e) (I.ok.cab x c hfn hc)))).trans e1⟩
    · obtain ⟨o', e1⟩ := I.base.there b o e hx
      exact ⟨o', (hs.2 b (Nat.ne_of_lt (Nat.lt_of_lt_of_le (Heap.lt_size e) (I.ok.cab x c hfn hc)))).trans e1⟩
    · by_cases hj : j = i
      · subst hj
        rw [hi] at e1; cases e1
        rw [List.getElem?_set_self hiσ] at e2
        cases e2
        exact ⟨u, r, .inr ⟨.inl hk, c, hc, hc'⟩⟩
      · rw [List.getElem?_set_ne (Ne.symm hj)] at e2
        obtain ⟨u', r', q⟩ := hl j y v' e1 e2 e3
        refine ⟨u', r', ?_⟩
        rcases q with q | ⟨k, c', e, z'⟩
        · exact .inl q
        · refine .inr ⟨k, c', e, z'.sameBut hs ?_⟩
          rintro rfl
          exact hj (nodup_ix hN e1 (I.ok.inj _ _ _ e hc ▸ hi))
    · by_cases hcc : c' = c
      · subst hcc; exact ⟨_, hc'⟩
      · obtain ⟨w2, z2⟩ := I.cell y c' e
        exact ⟨w2, z2.sameBut hs hcc⟩
    · obtain ⟨e, n, ne, nf, d⟩ := I.pin p hp
      refine ⟨(hs.2 p.1 ?_).trans e, n, ne, nf, d⟩
      intro q
      rw [q, hoc] at e
      have q' : oc = p.2 := Option.some.inj e
      exact d w' (by rw [← q']; exact hocd)
theorem store_ok {M : Model} {A : Around} {E : Value → Shared → Prop} {i : Nat} {x : Str} {v : V} {u : Value} {Q : Unit → Shared → Prop} (I : Inv X pins σ H s) (hN : X.N.Nodup) (hi : X.N[i]? = some x) (hx : Loc X.env.scope x) (r : RelV v u)
    (h : ∀ s', Inv X pins (σ.set i (some v)) H s' → Q () s') (hf : X.fn x = true ∨ X.env.scope.names.lookup x = some .local := by first | exact .inl rfl | exact .inr rfl | assumption) : wpAny M A (storeName X.env x u) Q E s :=
  store_ok2 I hN hi hx r (fun s' I' _ => h s' I') hf
theorem Inv.call' {s' : Shared} {ch : List Addr} (I : Inv X pins σ H s) (ho : s'.os = s.os) (u : Un (frs X.stack) ch H H' s.heap s'.heap) (hok : HOk X.prog X.w H' s'.heap) (hg : AllBare s'.gens)
    (hch : ∀ b ∈ ch, (b ∈ X.ex ∨ X.s₀.heap.objs.size ≤ b) ∧ b ≠ X.env.locals ∧ (∀ x c, X.env.cells.lookup x = some c → c ≠ b) ∧ ∀ p ∈ X.pn ++ pins, p.1 ≠ b) : Inv X pins σ H' s' := by
  obtain ⟨h', g', d', t', o'⟩ := s'
  have e : o' = s.os := ho
  subst e
  exact I.call (g' := g') (t' := t') (d' := d') u hok hg hch
end
noncomputable abbrev XK := Value → Option Addr → Hp → Prop
noncomputable abbrev St := List (Option V)
noncomputable abbrev VK := V → Hp → Prop
noncomputable abbrev TE := St → Hp → VK → Prop
noncomputable abbrev TT := St → Hp → (Bool → Hp → Prop) → Prop
noncomputable abbrev TA := St → Hp → (List V → Hp → Prop) → Prop
structure Ends where
  nx : St → Hp → Prop
  rt : VK
  bk : St → Hp → Prop := fun _ _ => False
  ct : St → Hp → Prop := fun _ _ => False
noncomputable abbrev TS := Ends → St → Hp → Prop
noncomputable def EP (X : Cx) (pins : List (Addr × Obj)) (σ : St) (Q : VK) (u : Value) (s' : Shared) : Prop := ∃ v H', Inv X pins σ H' s' ∧ RelV v u ∧ Q v H'
noncomputable def TP (X : Cx) (pins : List (Addr × Obj)) (σ : St) (Q : Bool → Hp → Prop) (b : Bool) (s' : Shared) : Prop := ∃ H', Inv X pins σ H' s' ∧ Q b H'
noncomputable def AP (X : Cx) (pins : List (Addr × Obj)) (σ : St) (Q : List V → Hp → Prop) (us : List Value) (s' : Shared) : Prop := ∃ vs H', Inv X pins σ H' s' ∧ Vals vs us ∧ Q vs H'
noncomputable def SP (X : Cx) (pins : List (Addr × Obj)) (D : Ends) (f : Flow) (s' : Shared) : Prop :=
  match f with
  | .next => ∃ σ' H', Inv X pins σ' H' s' ∧ D.nx σ' H'
  | .brk => ∃ σ' H', Inv X pins σ' H' s' ∧ D.bk σ' H'
  | .cont => ∃ σ' H', Inv X pins σ' H' s' ∧ D.ct σ' H'
  | .ret u => ∃ v σ' H', Inv X pins σ' H' s' ∧ RelV v u ∧ D.rt v H'
noncomputable def PE (X : Cx) (e : Expr) (t : TE) : Prop :=
  ∀ (pins : List (Addr × Obj)) (s : Shared) (σ : St) (H : Hp) (Q : VK), Inv X pins σ H s → t σ H Q → wpAny (model X.prog X.w) X.A (eval e X.env) (EP X pins σ Q) X.xe s
noncomputable def PT (X : Cx) (e : Expr) (t : TT) : Prop :=
  ∀ (pins : List (Addr × Obj)) (s : Shared) (σ : St) (H : Hp) (Q : Bool → Hp → Prop), Inv X pins σ H s → t σ H Q → wpAny (model X.prog X.w) X.A (isTrue e X.env (eval e X.env)) (TP X pins σ Q) X.xe s
noncomputable def PW (X : Cx) (e : Expr) (t : TT) : Prop :=
  ∀ (whole : Sem Value) (pins : List (Addr × Obj)) (s : Shared) (σ : St) (H : Hp) (Q : Bool → Hp → Prop), Inv X pins σ H s → t σ H Q → wpAny (model X.prog X.w) X.A (isTrue e X.env whole) (TP X pins σ Q) X.xe s
theorem PW.pt {X : Cx} {e : Expr} {t : TT} (h : PW X e t) : PT X e t := h _
noncomputable def PA (X : Cx) (es : List Expr) (t : TA) : Prop :=
  ∀ (pos : Pos) (pins : List (Addr × Obj)) (s : Shared) (σ : St) (H : Hp) (Q : List V → Hp → Prop), Inv X pins σ H s → t σ H Q → wpAny (model X.prog X.w) X.A (spliced (backTo pos (starEach es X.env))) (AP X pins σ Q) X.xe s
noncomputable def PS (X : Cx) (st : Stmt) (t : TS) : Prop :=
  ∀ (pins : List (Addr × Obj)) (s : Shared) (σ : St) (H : Hp) (D : Ends), Inv X pins σ H s → t D σ H → wpAny (model X.prog X.w) X.A (exec st X.env) (SP X pins D) X.xe s
noncomputable def PSs (X : Cx) (st : List Stmt) (t : TS) : Prop :=
  ∀ (pins : List (Addr × Obj)) (s : Shared) (σ : St) (H : Hp) (D : Ends), Inv X pins σ H s → t D σ H → wpAny (model X.prog X.w) X.A (execs st X.env) (SP X pins D) X.xe s
theorem thn {α : Type} {t : Sem α} {Q Q' : α → Shared → Prop} {M : Model} {A : Around} {E : Value → Shared → Prop} {s : Shared} (h : wpAny M A t Q E s) (hQ : ∀ a s, Q a s → Q' a s) : wpAny M A t Q' E s := wpAny_mono h hQ fun _ _ x => x
end L2
namespace L2
open PySem PySem.Spec PyProof.Rows
section
variable {X : Cx}
noncomputable def tVar (i : Nat) : TE := fun σ H Q => ∃ v, σ[i]? = some (some v) ∧ Q v H
noncomputable def tC (v : V) : TE := fun _ H Q => Q v H
theorem pe_var {i : Nat} {x : Str} {pos : Pos} (hN : X.N[i]? = some x) (hv : Vis X.env.scope x) (hd : (x == ("__debug__" : Str)) = false := by decide) (hcd : (x == ("__classdict__" : Str)) = false := by decide) : PE X (.Name x pos) (tVar i) := by
  intro pins s σ H Q I h
  obtain ⟨v, e, h⟩ := h
  obtain ⟨m, hn, hl⟩ := I.loc
  obtain ⟨u, r, l⟩ := hl i x v hN e hv
  have fin : EP X pins σ Q u s := ⟨v, H, I, r, h⟩
  rcases l with ⟨hk, hm⟩ | ⟨hk, c, hc, hcell⟩
  · exact wpAny_Name (wpAny_loadName_local I.ok.kind hk hn hm fin) hd
  · rcases hk with hk | hk
    · exact wpAny_Name (wpAny_loadName_cell I.ok.kind hk hc hcell fin) hd
    · exact wpAny_Name (wpAny_loadName_free I.ok.kind hk hc hcell fin hcd) hd
theorem pe_int {i j pos} : PE X (.Constant (.int i) j pos) (tC (.int i)) := fun _ _ _ H _ I h => wpAny_Constant_int ⟨.int i, H, I.tok _, ⟨_, rfl⟩, h⟩
theorem pe_bl {b j pos} : PE X (.Constant (.bool b) j pos) (tC (.bl b)) := fun _ _ _ H _ I h => Constant_bool ⟨.bl b, H, I, rfl, h⟩
theorem pe_str {x j pos} : PE X (.Constant (.str x) j pos) (tC (.str x)) := fun _ _ _ H _ I h => Calls.Constant_str ⟨.str x, H, I.tok _, ⟨_, rfl⟩, h⟩
noncomputable def Gl (X : Cx) (x : Str) : Prop := X.env.kindOf x = some .globalImplicit
theorem ld_glob {E : Value → Shared → Prop} {pins : List (Addr × Obj)} {s : Shared} {σ : St} {H : Hp} {x : Str} {u : Value} {pos : Pos} {Q : Value → Shared → Prop} (I : Inv X pins σ H s) (hg : Gl X x) (hm : X.mg x = some u) (h : Q u s)
    (hd : (x == ("__debug__" : Str)) = false := by decide) : wpAny (model X.prog X.w) X.A (eval (.Name x pos) X.env) Q E s :=
  Calls.Name_function_global I.ok.kind hg (Calls.loadGlobal_global (by rw [I.ok.glob]; exact I.mod.glob.keeps I.bk) hm h) hd
theorem ld_blt {E : Value → Shared → Prop} {pins : List (Addr × Obj)} {s : Shared} {σ : St} {H : Hp} {x : Str} {u : Value} {pos : Pos} {Q : Value → Shared → Prop} (I : Inv X pins σ H s) (hg : Gl X x) (hm : X.mg x = none) (hv : bootBuiltins x = some u) (h : Q u s)
    (hn : x ≠ "__name__" := by decide) (hd : (x == ("__debug__" : Str)) = false := by decide) : wpAny (model X.prog X.w) X.A (eval (.Name x pos) X.env) Q E s := by
  obtain ⟨mb, h1, h2⟩ := I.mod.blt
  exact Calls.Name_function_global I.ok.kind hg (Calls.loadGlobal_builtin (by rw [I.ok.glob]; exact I.mod.glob.keeps I.bk) hm (by rw [I.ok.blt]; exact h1.keeps I.bk) ((h2 x hn).trans hv) h) hd
theorem pe_glob {x : Str} {v : V} {u : Value} {pos : Pos} (hg : Gl X x) (hm : X.mg x = some u) (r : RelV v u) (hd : (x == ("__debug__" : Str)) = false := by decide) : PE X (.Name x pos) (tC v) :=
  fun _ _ _ H _ I h => ld_glob I hg hm ⟨v, H, I, r, h⟩ hd
theorem pe_bltn {x : Str} {v : V} {u : Value} {pos : Pos} (hg : Gl X x) (hm : X.mg x = none) (hv : bootBuiltins x = some u) (r : RelV v u) (hn : x ≠ "__name__" := by decide) (hd : (x == ("__debug__" : Str)) = false := by decide) : PE X (.Name x pos) (tC v) :=
  fun _ _ _ H _ I h => ld_blt I hg hm hv ⟨v, H, I, r, h⟩ hn hd
variable {a b : Expr} {ta tb : TE} {pos : Pos}
noncomputable def tB (t : TE) : TT := fun σ H Q => t σ H fun x H1 => ∃ c, x = .bl c ∧ Q c H1
theorem pt_val {e : Expr} {t : TE} (h : PE X e t) (he : ∀ whole, isTrue e X.env whole = (do let v ← whole; standAt e.pos; holding [v] (truthy v)) := by intro _; rfl) : PT X e (tB t) := by
  intro pins s σ H Q I hw
  refine isTrue_plain (thn (h pins s σ H _ I hw) fun v s1 ⟨x, H1, I1, r1, q1⟩ => ?_) (he _)
  obtain ⟨d, rfl, q⟩ := q1
  cases r1
  exact wpAny_truthy_bool ⟨H1, I1, q⟩
variable {tA tB' : TT} {rest : List Expr}
noncomputable def tAnd (t u : TT) : TT := fun σ H Q => t σ H fun c H1 => if c = true then u σ H1 Q else Q false H1
noncomputable def tOr (t u : TT) : TT := fun σ H Q => t σ H fun c H1 => if c = true then Q true H1 else u σ H1 Q
noncomputable def tNot (t : TT) : TT := fun σ H Q => t σ H fun c H1 => Q (!c) H1
theorem pw_and1 (ha : PT X a tA) : PW X (.BoolOp .And [a] pos) tA := by
  intro wh pins s σ H Q I h
  refine isTrue_and (thn (ha pins s σ H Q I h) fun c s1 e => ?_)
  cases c with
  | true => exact isTrue_and_nil e
  | false => exact e
theorem pw_or1 (ha : PT X a tA) : PW X (.BoolOp .Or [a] pos) tA := by
  intro wh pins s σ H Q I h
  refine isTrue_or (thn (ha pins s σ H Q I h) fun c s1 e => ?_)
  cases c with
  | false => exact isTrue_or_nil e
  | true => exact e
theorem pw_and (ha : PT X a tA) (hb : PW X (.BoolOp .And (b :: rest) pos) tB') : PW X (.BoolOp .And (a :: b :: rest) pos) (tAnd tA tB') := by
  intro wh pins s σ H Q I h
  refine isTrue_and (thn (ha pins s σ H _ I h) fun c s1 ⟨H1, I1, q1⟩ => ?_)
  cases c with
  | true => exact hb wh pins s1 σ H1 Q I1 q1
  | false => exact ⟨H1, I1, q1⟩
theorem pw_or (ha : PT X a tA) (hb : PW X (.BoolOp .Or (b :: rest) pos) tB') : PW X (.BoolOp .Or (a :: b :: rest) pos) (tOr tA tB') := by
  intro wh pins s σ H Q I h
  refine isTrue_or (thn (ha pins s σ H _ I h) fun c s1 ⟨H1, I1, q1⟩ => ?_)
  cases c with
  | true => exact ⟨H1, I1, q1⟩
  | false => exact hb wh pins s1 σ H1 Q I1 q1
theorem pt_not (ha : PT X a tA) : PT X (.UnaryOp .Not a pos) (tNot tA) := by
  intro pins s σ H Q I h
  exact isTrue_not (ha pins s σ H (fun c H1 => Q (!c) H1) I h)
noncomputable def tAndV (ta tb : TE) : TE := fun σ H Q => ta σ H fun x H1 => ∃ c, x = .bl c ∧ if c = true then tb σ H1 Q else Q (.bl false) H1
noncomputable def tOrV (ta tb : TE) : TE := fun σ H Q => ta σ H fun x H1 => ∃ c, x = .bl c ∧ if c = true then Q (.bl true) H1 else tb σ H1 Q
noncomputable def tNotV (ta : TE) : TE := fun σ H Q => ta σ H fun x H1 => ∃ c, x = .bl c ∧ Q (.bl (!c)) H1
theorem pe_one {op} {t : TE} (h : PE X a t) : PE X (.BoolOp op [a] pos) t := fun pins s σ H Q I hw => BoolOp_one (h pins s σ H Q I hw)
theorem pe_and (ha : PE X a ta) (hb : PE X (.BoolOp .And (b :: rest) pos) tb) : PE X (.BoolOp .And (a :: b :: rest) pos) (tAndV ta tb) := by
  intro pins s σ H Q I h
  refine BoolOp_and (thn (ha pins s σ H _ I h) fun v s1 ⟨x, H1, I1, r1, q1⟩ => ?_)
  obtain ⟨c, rfl, q1⟩ := q1
  cases r1
  refine wpAny_truthy_bool ?_
  cases c with
  | true => exact hb pins s1 σ H1 Q I1 q1
  | false => exact ⟨.bl false, H1, I1, rfl, q1⟩
theorem pe_or (ha : PE X a ta) (hb : PE X (.BoolOp .Or (b :: rest) pos) tb) : PE X (.BoolOp .Or (a :: b :: rest) pos) (tOrV ta tb) := by
  intro pins s σ H Q I h
  refine BoolOp_or (thn (ha pins s σ H _ I h) fun v s1 ⟨x, H1, I1, r1, q1⟩ => ?_)
  obtain ⟨c, rfl, q1⟩ := q1
  cases r1
  refine wpAny_truthy_bool ?_
  cases c with
  | false => exact hb pins s1 σ H1 Q I1 q1
  | true => exact ⟨.bl true, H1, I1, rfl, q1⟩
theorem pe_not (ha : PE X a ta) : PE X (.UnaryOp .Not a pos) (tNotV ta) := by
  intro pins s σ H Q I h
  refine UnaryOp_ (thn (ha pins s σ H _ I h) fun v s1 ⟨x, H1, I1, r1, q1⟩ => ?_)
  obtain ⟨c, rfl, q1⟩ := q1
  cases r1
  exact not_of (wpAny_truthy_bool ⟨.bl (!c), H1, I1, rfl, q1⟩)
noncomputable def tIf (t : TT) (ta tb : TE) : TE := fun σ H Q => t σ H fun c H1 => if c = true then ta σ H1 Q else tb σ H1 Q
theorem pe_ifExp {c : Expr} (hc : PT X c tA) (ha : PE X a ta) (hb : PE X b tb) : PE X (.IfExp c a b pos) (tIf tA ta tb) := by
  intro pins s σ H Q I h
  refine wpAny_IfExp (thn (hc pins s σ H _ I h) fun d s1 ⟨H1, I1, q1⟩ => ?_)
  cases d with
  | true => exact ha pins s1 σ H1 Q I1 q1
  | false => exact hb pins s1 σ H1 Q I1 q1
end
end L2
namespace L2
open PySem PySem.Spec PyProof.Rows
noncomputable def SqL (K : PySem.W.Frag) (H : Hp) (a : Addr) (xs : List V) : Prop :=
  Rd H a (.lst xs) ∨
    ∃ (o : Obj) (its : Array Value) (n : Nat), K.lookup a = some o ∧ o.cls = .type "list" ∧ o.dict = none ∧ o.data = .seq its n ∧ its.size ≤ sizeLine ∧ Vals xs its.toList
noncomputable def SqT (K : PySem.W.Frag) (H : Hp) (a : Addr) (xs : List V) : Prop :=
  Rd H a (.tup xs) ∨
    ∃ (o : Obj) (its : Array Value) (n : Nat), K.lookup a = some o ∧ o.cls = .type "tuple" ∧ o.data = .seq its n ∧ its.size ≤ sizeLine ∧ Vals xs its.toList
noncomputable def absV : Value → Option V
  | .none => some .non
  | .bool b => some (.bl b)
  | .int i _ => some (.int i)
  | .str x _ => some (.str x)
  | .bytes b _ => some (.byt b)
  | .float b _ => some (.flt b)
  | .ref a => some (.ref a)
  | .type n => some (.ty n)
  | _ => none
theorem RelV.abs {x : V} {u : Value} (r : RelV x u) : absV u = some x := by
  cases x with
  | non => cases r; rfl
  | bl _ => cases r; rfl
  | int _ => obtain ⟨t, rfl⟩ := r; rfl
  | str _ => obtain ⟨t, rfl⟩ := r; rfl
  | byt _ => obtain ⟨t, rfl⟩ := r; rfl
  | flt _ => obtain ⟨t, rfl⟩ := r; rfl
  | ref _ => cases r; rfl
  | ty _ => cases r; rfl
theorem RelV.inj {x y : V} {u : Value} (r : RelV x u) (q : RelV y u) : x = y := Option.some.inj (r.abs.symm.trans q.abs)
theorem Vals.inj : ∀ {xs ys : List V} {us : List Value}, Vals xs us → Vals ys us → xs = ys
  | _, _, _, .nil, .nil => rfl
  | _, _, _, .cons r t, .cons r' t' => by rw [r.inj r', Vals.inj t t']
section
variable {X : Cx} {pins : List (Addr × Obj)} {σ : St} {H : Hp} {s : Shared} {a : Addr} {xs ys : List V}
theorem SqL.of {K : PySem.W.Frag} (h : H a = some (.lst xs)) : SqL K H a xs := .inl (.inl h)
theorem SqT.of {K : PySem.W.Frag} (h : H a = some (.tup xs)) : SqT K H a xs := .inl (.inl h)
theorem Inv.list (I : Inv X pins σ H s) (h : SqL X.K H a xs) : ∃ its : List Value, Vals xs its ∧ PlainL s.heap a its.toArray ∧ xs.length ≤ sizeLine := by
  rcases h with h | ⟨o, its, n, hk, hc, hd, hs, hz, r⟩
  · obtain ⟨z, its, n, r, e⟩ := h.ok I.hok
    exact ⟨its, r, ⟨_, n, e, rfl, rfl, rfl⟩, z⟩
  · refine ⟨its.toList, r, ⟨o, n, I.kIn a o hk, hc, hd, by simpa using hs⟩, ?_⟩
    have e := r.length
    simp only [Array.length_toList] at e
    omega
theorem Inv.tuple (I : Inv X pins σ H s) (h : SqT X.K H a xs) : ∃ its : List Value, Vals xs its ∧ IsTup s.heap a its.toArray ∧ xs.length ≤ sizeLine := by
  rcases h with h | ⟨o, its, n, hk, hc, hs, hz, r⟩
  · obtain ⟨z, its, r, p⟩ := h.ok I.hok
    exact ⟨its, r, p, z⟩
  · refine ⟨its.toList, r, ⟨o, I.kIn a o hk, hc, n, by simpa using hs⟩, ?_⟩
    have e := r.length
    simp only [Array.length_toList] at e
    omega
theorem Inv.list_inj (I : Inv X pins σ H s) (h : SqL X.K H a xs) (h' : SqL X.K H a ys) : xs = ys := by
  obtain ⟨its, r, ⟨o, n, e, _, _, d⟩, _⟩ := I.list h
  obtain ⟨its', r', ⟨o', n', e', _, _, d'⟩, _⟩ := I.list h'
  rw [e] at e'; cases e'
  rw [d] at d'
  injection d' with d1 _
  have : its = its' := by simpa using congrArg Array.toList d1
  subst this
  exact r.inj r'
end
noncomputable abbrev Cx.wish (X : Cx) (E : Value → Shared → Prop) : Cx := { X with xe := E }
noncomputable abbrev Cx.nox (X : Cx) : Cx := X.wish fun _ _ => False
theorem Cx.Ok.wish {X : Cx} (ok : X.Ok) (E : Value → Shared → Prop) : (X.wish E).Ok :=
  ⟨ok.mod, ok.kind, ok.glob, ok.blt, ok.above, ok.inj, ok.has, ok.cab, ok.hd, ok.frames, ok.stk, ok.exf, ok.bs, ok.bsz, ok.noex, ok.exfs, ok.funs, ok.frf⟩
theorem Cx.Ok.unwish {X : Cx} {E : Value → Shared → Prop} (ok : (X.wish E).Ok) : X.Ok :=
  ⟨ok.mod, ok.kind, ok.glob, ok.blt, ok.above, ok.inj, ok.has, ok.cab, ok.hd, ok.frames, ok.stk, ok.exf, ok.bs, ok.bsz, ok.noex, ok.exfs, ok.funs, ok.frf⟩
section
variable {X : Cx} {pins : List (Addr × Obj)} {σ : St} {H : Hp} {s : Shared} {E : Value → Shared → Prop}
theorem Inv.wish (I : Inv X pins σ H s) (E : Value → Shared → Prop) : Inv (X.wish E) pins σ H s := ⟨I.ok.wish E, I.os, I.bare, I.base, I.loc, I.cell, I.free, I.freeC, I.pin, I.hok, I.len⟩
theorem Inv.unwish (I : Inv (X.wish E) pins σ H s) : Inv X pins σ H s := ⟨I.ok.unwish, I.os, I.bare, I.base, I.loc, I.cell, I.free, I.freeC, I.pin, I.hok, I.len⟩
theorem SP.unwish {D : Ends} {f : Flow} {s' : Shared} (h : SP (X.wish E) pins D f s') : SP X pins D f s' := by
  cases f with
  | next => obtain ⟨σ', H', I, q⟩ := h; exact ⟨σ', H', I.unwish, q⟩
  | brk => obtain ⟨σ', H', I, q⟩ := h; exact ⟨σ', H', I.unwish, q⟩
  | cont => obtain ⟨σ', H', I, q⟩ := h; exact ⟨σ', H', I.unwish, q⟩
  | ret u => obtain ⟨v, σ', H', I, r, q⟩ := h; exact ⟨v, σ', H', I.unwish, r, q⟩
theorem PE.nox {e : Expr} {t : TE} (h : PE X.nox e t) : PE X e t := fun pins s σ H Q I hw =>
  wpAny_mono (h pins s σ H Q (I.wish _) hw) (fun _ _ ⟨v, H', I', r, q⟩ => ⟨v, H', I'.unwish, r, q⟩) fun _ _ z => False.elim z
theorem PT.nox {e : Expr} {t : TT} (h : PT X.nox e t) : PT X e t := fun pins s σ H Q I hw =>
  wpAny_mono (h pins s σ H Q (I.wish _) hw) (fun _ _ ⟨H', I', q⟩ => ⟨H', I'.unwish, q⟩) fun _ _ z => False.elim z
theorem PSs.nox {st : List Stmt} {t : TS} (h : PSs X.nox st t) : PSs X st t := fun pins s σ H D I hw =>
  wpAny_mono (h pins s σ H D (I.wish _) hw) (fun _ _ q => q.unwish) fun _ _ z => False.elim z
end
section
variable {X : Cx} {st : Stmt} {rest : List Stmt} {t u : TS} {e : Expr} {te : TE} {pos : Pos}
noncomputable def tNext : TS := fun D σ H => D.nx σ H
noncomputable def tSeq (t u : TS) : TS := fun D σ H => t { D with nx := u D } σ H
theorem pss_nil : PSs X [] tNext := fun _ _ σ H _ I h => wpAny_execs_nil ⟨σ, H, I, h⟩
theorem pss_cons (h1 : PS X st t) (h2 : PSs X rest u) : PSs X (st :: rest) (tSeq t u) := by
  intro pins s σ H D I h
  refine wpAny_execs_cons (thn (h1 pins s σ H { D with nx := u D } I h) fun f s1 q => ?_)
  cases f with
  | next =>
    obtain ⟨σ', H', I', q⟩ := q
    exact h2 pins s1 σ' H' D I' q
  | ret v => exact q
  | brk => exact q
  | cont => exact q
theorem pss_one (h1 : PS X st t) : PSs X [st] t := by
  intro pins s σ H D I h
  refine wpAny_execs_cons (thn (h1 pins s σ H D I h) fun f s1 q => ?_)
  cases f with
  | next => exact wpAny_execs_nil q
  | ret v => exact q
  | brk => exact q
  | cont => exact q
theorem Inv.quiet {pins : List (Addr × Obj)} {σ : St} {H : Hp} {s : Shared} (I : Inv X pins σ H s) : interactive X.env = false := by simp [interactive, I.ok.kind]
noncomputable def tDrop (te : TE) : TS := fun D σ H => te σ H fun _ H1 => D.nx σ H1
theorem ps_expr (he : PE X e te) (hs : swapsWith e none pos.line X.env = pure false := by rfl) : PS X (.Expr e pos) (tDrop te) := by
  intro pins s σ H D I h
  exact wpAny_Expr_any (thn (he pins s σ H _ I h) fun v s1 ⟨x, H1, I1, r1, q1⟩ => ⟨σ, H1, I1, q1⟩) I.quiet hs
noncomputable def tRet (te : TE) : TS := fun D σ H => te σ H D.rt
theorem ps_ret (he : PE X e te) : PS X (.Return (some e) pos) (tRet te) := by
  intro pins s σ H D I h
  exact wpAny_Return_some (thn (he pins s σ H _ I h) fun v s1 ⟨x, H1, I1, r1, q1⟩ => ⟨x, σ, H1, I1, r1, q1⟩)
noncomputable def tIfS (c : TT) (t u : TS) : TS := fun D σ H => c σ H fun b H1 => if b = true then t D σ H1 else u D σ H1
theorem ps_if {c : Expr} {a b : List Stmt} {tc : TT} (hc : PT X c tc) (ha : PSs X a t) (hb : PSs X b u) : PS X (.If c a b pos) (tIfS tc t u) := by
  intro pins s σ H D I h
  refine wpAny_If (thn (hc pins s σ H _ I h) fun d s1 ⟨H1, I1, q1⟩ => ?_)
  cases d with
  | true => exact ha pins s1 σ H1 D I1 q1
  | false => exact hb pins s1 σ H1 D I1 q1
end
noncomputable abbrev TG := V → St → Hp → (St → Hp → Prop) → Prop
noncomputable abbrev TGs := List V → St → Hp → (St → Hp → Prop) → Prop
noncomputable def PG (X : Cx) (target : Expr) (t : TG) : Prop :=
  ∀ (pins : List (Addr × Obj)) (s : Shared) (σ : St) (H : Hp) (v : V) (u : Value) (Q : St → Hp → Prop), Inv X pins σ H s → RelV v u → t v σ H Q →
    wpAny (model X.prog X.w) X.A (assign target X.env u) (fun _ s' => ∃ σ' H', Inv X pins σ' H' s' ∧ Q σ' H') X.xe s
noncomputable def PGs (X : Cx) (ts : List Expr) (t : TGs) : Prop :=
  ∀ (pins : List (Addr × Obj)) (s : Shared) (σ : St) (H : Hp) (vs : List V) (us : List Value) (Q : St → Hp → Prop), Inv X pins σ H s → Vals vs us → t vs σ H Q →
    wpAny (model X.prog X.w) X.A (assignInOrder ((assignEach ts X.env).map (·.2)) us) (fun _ s' => ∃ σ' H', Inv X pins σ' H' s' ∧ Q σ' H') X.xe s
noncomputable abbrev TSet := V → V → V → Hp → (Hp → Prop) → Prop
noncomputable def PSet (X : Cx) (t : TSet) : Prop :=
  ∀ (pins : List (Addr × Obj)) (s : Shared) (σ : St) (H : Hp) (o i v : V) (ov iv u : Value) (Q : Hp → Prop), Inv X pins σ H s → RelV o ov → RelV i iv → RelV v u → t o i v H Q →
    wpAny (model X.prog X.w) X.A (setItem ov iv u) (fun _ s' => ∃ H', Inv X pins σ H' s' ∧ Q H') X.xe s
section
variable {X : Cx} {pos : Pos}
noncomputable def gName (i : Nat) : TG := fun v σ H Q => Q (σ.set i (some v)) H
theorem pg_name {i : Nat} {x : Str} (hN : X.N.Nodup) (hi : X.N[i]? = some x) (hx : Loc X.env.scope x) (hf : X.fn x = true ∨ X.env.scope.names.lookup x = some .local := by first | exact .inl rfl | exact .inr rfl | assumption) : PG X (.Name x pos) (gName i) := by
  intro pins s σ H v u Q I r h
  exact wpAny_assign_Name (store_ok I hN hi hx r (fun s' I' => ⟨_, H, I', h⟩) hf)
noncomputable def gNil : TGs := fun vs σ H Q => vs = [] ∧ Q σ H
noncomputable def gCons (t : TG) (u : TGs) : TGs := fun vs σ H Q => ∃ v r, vs = v :: r ∧ t v σ H fun σ' H' => u r σ' H' Q
theorem pgs_nil : PGs X [] gNil := by
  intro pins s σ H vs us Q I r h
  obtain ⟨e, h⟩ := h
  subst e
  cases r
  exact assignInOrder_nil ⟨σ, H, I, h⟩
theorem pgs_cons {e : Expr} {es : List Expr} {t : TG} {u : TGs} (h1 : PG X e t) (h2 : PGs X es u)
    (hs : (assignEach (e :: es) X.env).map (·.2) = assign e X.env :: (assignEach es X.env).map (·.2) := by rfl) : PGs X (e :: es) (gCons t u) := by
  intro pins s σ H vs us Q I r h
  obtain ⟨v, vr, e1, h⟩ := h
  subst e1
  cases r with
  | cons r rr =>
    rw [hs]
    refine assignInOrder_cons (thn (h1 pins s σ H _ _ _ I r h) fun _ s1 ⟨σ1, H1, I1, q1⟩ => ?_)
    exact h2 pins s1 σ1 H1 _ _ Q I1 rr q1
noncomputable def gTup (K : PySem.W.Frag) (n : Nat) (t : TGs) : TG := fun v σ H Q => ∃ a xs, v = .ref a ∧ SqT K H a xs ∧ xs.length = n ∧ t xs σ H Q
theorem pg_tup {es : List Expr} {k : Nat} {t : TGs} {n : Nat} (hc : X.calm = true) (h : PGs X es t)
    (hn : (assignEach es X.env).length = n := by rfl) (hst : (assignEach es X.env).findIdx? (·.1) = none := by rfl) : PG X (.Tuple es k pos) (gTup X.K n t) := by
  intro pins s σ H v u Q I r hw
  obtain ⟨a, xs, e1, hq, hl, hw⟩ := hw
  subst e1
  cases r
  obtain ⟨its, rv, ht, hz⟩ := I.tuple hq
  refine assign_Tuple_tuple (I.ok.hd hc) ht (by simp [hn, ← hl, rv.length]) hst fun h' hx => ?_
  have I1 : Inv X pins σ H { s with heap := h' } := I.kept (t' := s.toks) fun b o e => hx b o (Nat.ne_of_lt (Heap.lt_size e)) e
  exact h pins _ σ H xs _ Q I1 (by simpa using rv) hw
noncomputable def gSub (to ti : TE) (t : TSet) : TG := fun v σ H Q => to σ H fun o H1 => ti σ H1 fun i H2 => t o i v H2 fun H3 => Q σ H3
theorem pg_sub {o i : Expr} {to ti : TE} {t : TSet} (ho : PE X o to) (hi : PE X i ti) (hs : PSet X t)
    (ha : ∀ v, assign (.Subscript o i pos) X.env v = (do
      let ov ← holding [v] (eval o X.env)
      let iv ← holding [v, ov] (eval i X.env)
      standAt pos
      holding [v, ov, iv] (setItem ov iv v)
      release [v, ov, iv] []) := by intro _; rfl) : PG X (.Subscript o i pos) (gSub to ti t) := by
  intro pins s σ H v u Q I r h
  rw [ha]
  refine wpAny_bind (wpAny_holding (thn (ho pins s σ H _ I h) fun ov s1 ⟨x, H1, I1, r1, q1⟩ => ?_))
  refine wpAny_bind (wpAny_holding (thn (hi pins s1 σ H1 _ I1 q1) fun iv s2 ⟨y, H2, I2, r2, q2⟩ => ?_))
  refine wpAny_bind (wpAny_standAt (wpAny_bind (wpAny_holding (thn (hs pins s2 σ H2 x y v ov iv u _ I2 r1 r2 r q2) fun _ s3 ⟨H3, I3, q3⟩ => ?_))))
  exact wpAny_release ⟨σ, H3, I3, q3⟩
noncomputable def tAsg (te : TE) (g : TG) : TS := fun D σ H => te σ H fun x H1 => g x σ H1 D.nx
theorem ps_asg {tg e : Expr} {te : TE} {g : TG} (he : PE X e te) (hg : PG X tg g) (hs : swapsWithSole [tg] e pos.line X.env = pure false := by rfl) (hw : swappedStores [tg] e X.env = pure none := by rfl)
    (h1 : (assignEach [tg] X.env).map (·.2) = [assign tg X.env] := by rfl) : PS X (.Assign [tg] e pos) (tAsg te g) := by
  intro pins s σ H D I h
  refine wpAny_Assign_stores (thn (he pins s σ H _ I h) fun v s1 ⟨x, H1, I1, r1, q1⟩ => ?_) hs hw
  rw [h1]
  exact thn (hg pins s1 σ H1 x v _ I1 r1 q1) fun _ s2 q => q
theorem ps_set {i : Nat} {x : Str} {e : Expr} {te : TE} {pos' : Pos} (hN : X.N.Nodup) (hi : X.N[i]? = some x) (hx : Loc X.env.scope x) (he : PE X e te) (hs : swapsWith e (some (.Name x pos')) pos.line X.env = pure false := by rfl) (hf : X.fn x = true ∨ X.env.scope.names.lookup x = some .local := by first | exact .inl rfl | exact .inr rfl | assumption) :
    PS X (.Assign [.Name x pos'] e pos) (tAsg te (gName i)) := by
  intro pins s σ H D I h
  refine wpAny_Assign_Name (thn (he pins s σ H _ I h) fun v s1 ⟨y, H1, I1, r1, q1⟩ => ?_) hs
  exact store_ok I1 hN hi hx r1 (fun s2 I2 => ⟨_, H1, I2, q1⟩) hf
noncomputable def tPar (i j : Nat) (ta : TA) : TS := fun D σ H => ta σ H fun vs H1 => ∃ v w, vs = [v, w] ∧ D.nx ((σ.set i (some v)).set j (some w)) H1
theorem ps_par {i j : Nat} {x y : Str} {a b : Expr} {ta : TA} {px py pt : Pos} {kt k2 pt2} (hc : X.calm = true) (hN : X.N.Nodup) (hi : X.N[i]? = some x) (hj : X.N[j]? = some y) (hij : i ≠ j)
    (hx : X.env.scope.names.lookup x = some .local) (hy : X.env.scope.names.lookup y = some .local) (ha : PA X [a, b] ta)
    (hw : swappedStores [.Tuple [.Name x px, .Name y py] kt pt] (.Tuple [a, b] k2 pt2) X.env = pure (some [x, y]))
    (hs : swapsWithSole [.Tuple [.Name x px, .Name y py] kt pt] (.Tuple [a, b] k2 pt2) pos.line X.env = pure false := by rfl) :
    PS X (.Assign [.Tuple [.Name x px, .Name y py] kt pt] (.Tuple [a, b] k2 pt2) pos) (tPar i j ta) := by
  intro pins s σ H D I h
  rw [exec_Assign_arm]
  refine wpAny_bind (wpAny_standAt ?_)
  rw [hs]
  refine wpAny_bind (wpAny_pure ?_)
  rw [if_neg (by decide)]
  refine wpAny_bind (Tuple_ (thn (ha _ pins s σ H _ I h) fun us s1 ⟨vs, H1, I1, r1, q1⟩ => ?_))
  obtain ⟨v, w, e1, q1⟩ := q1
  subst e1
  obtain ⟨u1, u2, rfl, rv, rw'⟩ : ∃ u1 u2, us = [u1, u2] ∧ RelV v u1 ∧ RelV w u2 := by
    cases r1 with
    | cons p q =>
      cases q with
      | cons p' q' =>
        cases q'
        exact ⟨_, _, rfl, p, p'⟩
  refine wpAny_newObj_type ?_ (by show 2 ≤ sizeLine; decide)
  have I2 : Inv X pins σ H1 { s1 with heap := s1.heap.push { cls := .type "tuple", data := .seq [u1, u2].toArray } } := I1.kept (t' := s1.toks) fun b o e => Heap.get?_push_of_some _ e
  rw [hw]
  refine wpAny_bind (wpAny_pure ?_)
  show wpAny (model X.prog X.w) X.A (do rule "assign.swapped-stores"; let items ← unpackItems (.ref s1.heap.objs.size) 2 none; assignInOrder [fun v => bindName X.env y v, fun v => bindName X.env x v] items.reverse; pure Flow.next) _ _ _
  refine wpAny_bind (wpAny_rule (wpAny_bind (unpackItems_tuple (items := #[u1, u2]) (I.ok.hd hc) (IsTup.new s1.heap _) fun h' hx' => ?_)))
  have I3 := I2.kept (h' := h') (t' := s1.toks) fun b o e => hx' b o (Nat.ne_of_lt (Heap.lt_size e)) e
  show wpAny _ _ (assignInOrder [fun v => bindName X.env y v, fun v => bindName X.env x v] [u2, u1] >>= fun _ => pure Flow.next) _ _ _
  refine wpAny_bind (assignInOrder_cons (wpAny_bindName (store_ok I3 hN hj (.inl hy) rw' (fun s2 I4 => ?_) (.inr hy))))
  refine assignInOrder_cons (wpAny_bindName (store_ok I4 hN hi (.inl hx) rv (fun s3 I5 => assignInOrder_nil (wpAny_pure ?_)) (.inr hx)))
  rw [List.set_comm _ _ (Ne.symm hij)] at I5
  exact ⟨_, H1, I5, q1⟩
end
section
variable {X : Cx} {pos : Pos}
noncomputable def tWhile (c : TT) (tb : TS) : TS := fun D σ H => ∃ W : Nat → St → Hp → Prop, (∃ m, W m σ H) ∧ ∀ m σ H, W m σ H →
  c σ H fun b H1 => if b = true then ∃ N : St → Hp → Prop, (∀ σ' H', N σ' H' → ∃ m', m' < m ∧ W m' σ' H') ∧ tb { D with nx := N, ct := N, bk := D.nx } σ H1 else D.nx σ H1
theorem ps_while {c : Expr} {body : List Stmt} {tc : TT} {tb : TS} (hp : PassesOwn (model X.prog X.w) X.A X.env X.xe) (hc : PT X c tc) (hb : PSs X body tb) : PS X (.While c body [] pos) (tWhile tc tb) := by
  intro pins s σ H D I h
  obtain ⟨W, ⟨m0, w0⟩, turn⟩ := h
  refine wpAny_While (codeAny_whileLoop (fun n s' => ∃ σ' H', Inv X pins σ' H' s' ∧ W n σ' H') ?_ m0 ⟨σ, H, I, w0⟩)
  rintro n s1 ⟨σ1, H1, I1, w1⟩
  refine wpAny_passesOwn hp (thn (hc pins s1 σ1 H1 _ I1 (turn n σ1 H1 w1)) fun b s2 ⟨H2, I2, q2⟩ => ?_)
  cases b with
  | true =>
    obtain ⟨N, hN, q2⟩ := q2
    rw [if_pos rfl]
    refine wpAny_passesOwn hp (thn (hb pins s2 σ1 H2 _ I2 q2) fun f s3 q3 => ?_)
    cases f with
    | next =>
      obtain ⟨σ3, H3, I3, n3⟩ := q3
      obtain ⟨m', hm, w3⟩ := hN σ3 H3 n3
      exact ⟨m', hm, σ3, H3, I3, w3⟩
    | cont =>
      obtain ⟨σ3, H3, I3, n3⟩ := q3
      obtain ⟨m', hm, w3⟩ := hN σ3 H3 n3
      exact ⟨m', hm, σ3, H3, I3, w3⟩
    | brk => exact q3
    | ret v => exact q3
  | false =>
    rw [if_neg Bool.false_ne_true]
    exact wpAny_execs_nil ⟨σ1, H2, I2, q2⟩
end
structure It where
  go : Nat → Hp → Prop
  yld : Nat → Hp → V → Hp → Prop
  stop : Nat → Hp → Prop
noncomputable def FpOk (X : Cx) (pins : List (Addr × Obj)) (H : Hp) (b : Addr) : Prop :=
  H b = none ∧ b ≠ X.env.locals ∧ b ∉ X.fs ∧ (b ∈ X.ex ∨ X.s₀.heap.objs.size ≤ b) ∧ (∀ x c, X.env.cells.lookup x = some c → c ≠ b) ∧ ∀ p ∈ X.pn ++ pins, p.1 ≠ b
theorem Inv.fpOk {X : Cx} {pins : List (Addr × Obj)} {σ : St} {H H' : Hp} {s : Shared} {b : Addr} (I : Inv X pins σ H s) (hb : s.heap.objs.size ≤ b) (hn : H' b = none) : FpOk X pins H' b := by
  refine ⟨hn, Nat.ne_of_gt (Nat.lt_of_lt_of_le I.lt hb), I.nofs hb, .inr (Nat.le_trans I.sz hb), fun x c e z => ?_, fun p hp z => ?_⟩
  · obtain ⟨v, q⟩ := I.cell x c e
    exact absurd (Nat.lt_of_lt_of_le q.lt (by rw [z]; exact hb)) (Nat.lt_irrefl _)
  · exact absurd (Nat.lt_of_lt_of_le (Heap.lt_size (I.pin p hp).1) (by rw [z]; exact hb)) (Nat.lt_irrefl _)
structure Turn (P : Program) (w : World) (K : PySem.W.Frag) (tg : Expr) (J : It) (fp : List Addr) (it : Addr) (tn : Nat → Heap → Prop) : Prop where
  mem : it ∈ fp
  obj : ∀ i h, tn i h → ∀ b ∈ fp, ∃ o, h.get? b = some o ∧ ∀ v, o.data ≠ .cell v
  keep : ∀ i h h', tn i h → (∀ b ∈ fp, ∀ o, h.get? b = some o → h'.get? b = some o) → tn i h'
  item : ∀ (X : Cx), X.prog = P → X.w = w → X.K = K → X.calm = true → ∀ (i : Nat) (pins : List (Addr × Obj)) (s : Shared) (σ : St) (H : Hp) (E : Value → Shared → Prop), Inv X pins σ H s → (∀ b ∈ fp, FpOk X pins H b) → tn i s.heap → J.go i H →
    wpAny (model P w) X.A (pyNext (.ref it)) (fun r s1 => ∃ u, r = some u ∧
      wpAny (model P w) X.A (letOwnedTupleGo tg (.ref it) u) (fun _ s2 => ∃ x H', Inv X pins σ H' s2 ∧ RelV x u ∧ J.yld i H x H' ∧ tn (i + 1) s2.heap ∧ ∀ b ∈ fp, H' b = none) E s1) E s
  done : ∀ (X : Cx), X.prog = P → X.w = w → X.K = K → X.calm = true → ∀ (i : Nat) (pins : List (Addr × Obj)) (s : Shared) (σ : St) (H : Hp) (E : Value → Shared → Prop), Inv X pins σ H s → (∀ b ∈ fp, FpOk X pins H b) → tn i s.heap → J.stop i H →
    wpAny (model P w) X.A (pyNext (.ref it)) (fun r s1 => r = none ∧ Inv X pins σ H s1) E s
  self : ∀ (A : Around) (i : Nat) (s : Shared) (Q : Value → Shared → Prop) (E : Value → Shared → Prop), tn i s.heap → Q (.ref it) s → wpAny (model P w) A (pyIter (.ref it)) Q E s
noncomputable abbrev TI := St → Hp → (It → Hp → Prop) → Prop
noncomputable def PIE (X : Cx) (pins : List (Addr × Obj)) (σ : St) (tg : Expr) (R : It → Hp → Prop) (itv : Value) (s2 : Shared) : Prop :=
  ∃ (it : Addr) (fp : List Addr) (tn : Nat → Heap → Prop) (J : It) (H' : Hp), itv = .ref it ∧ Inv X pins σ H' s2 ∧ Turn X.prog X.w X.K tg J fp it tn ∧ tn 0 s2.heap ∧ (∀ b ∈ fp, FpOk X pins H' b) ∧ R J H'
noncomputable def PI (X : Cx) (tg iter : Expr) (wi : TI) : Prop :=
  ∀ (pins : List (Addr × Obj)) (s : Shared) (σ : St) (H : Hp) (R : It → Hp → Prop), Inv X pins σ H s → wi σ H R →
    wpAny (model X.prog X.w) X.A (eval iter X.env) (fun v s1 => wpAny (model X.prog X.w) X.A (pyIter v) (PIE X pins σ tg R) X.xe s1) X.xe s
theorem go_of {M : Model} {A : Around} {E : Value → Shared → Prop} {s : Shared} {tg : Expr} {it : Addr} {u : Value} {o : Obj} {n : String} {vs : Array Value} {Q : Unit → Shared → Prop} (ho : s.heap.get? it = some o) (hc : o.cls = .type n) (hd : o.data = .fields vs)
    (hn : ["enumerate", "zip", "dict_itemiterator", "dict_reverseitemiterator", "odict_iterator", "itertools.zip_longest", "itertools.pairwise"].contains n = false) (hQ : Q () s) : wpAny M A (letOwnedTupleGo tg (.ref it) u) Q E s := by
  unfold letOwnedTupleGo
  cases tg <;> first
    | exact wpAny_pure hQ
    | (cases u <;> first
        | exact wpAny_pure hQ
        | (refine wpAny_bind (wpAny_load ho ?_)
           rw [hc, hd]
           show wpAny M A (if (["enumerate", "zip", "dict_itemiterator", "dict_reverseitemiterator", "odict_iterator", "itertools.zip_longest", "itertools.pairwise"].contains n && vs[0]? == some (rawInt _)) = true then _ else _) Q E s
           rw [if_neg (by intro h; rw [hn, Bool.false_and] at h; cases h)]
           exact wpAny_pure hQ))
noncomputable def Itl (K : PySem.W.Frag) (a : Addr) : It :=
  ⟨fun i H => ∃ xs x, SqL K H a xs ∧ xs[i]? = some x, fun i H x H' => H' = H ∧ ∀ xs, SqL K H a xs → xs[i]? = some x, fun i H => ∃ xs, SqL K H a xs ∧ xs.length ≤ i⟩
noncomputable def Itr (lo : Int) (n : Nat) : It := ⟨fun i _ => i < n, fun i H x H' => H' = H ∧ x = .int (lo + i), fun i _ => n ≤ i⟩
theorem turn_list {P : Program} {w : World} {K : PySem.W.Frag} {tg : Expr} (a it : Addr) : Turn P w K tg (Itl K a) [it] it (fun i h => h.IsListIter it a i) where
  mem := by simp
  obj := fun i h st b hb => by
    have e : b = it := by simpa using hb
    subst e
    obtain ⟨o, e, c, d⟩ := st
    exact ⟨o, e, fun v z => by rw [d] at z; cases z⟩
  keep := fun i h h' st k => st.at fun o e => k it (by simp) o e
  item := by
    intro X hP hw hK hc i pins s σ H E I hf st hg
    subst hP hw hK
    obtain ⟨xs, x, hq, hx⟩ := hg
    obtain ⟨its, rv, p, hz⟩ := I.list hq
    obtain ⟨u, hu, ru⟩ := rv.get hx
    obtain ⟨f0, f1, f2, f3, f4, f5⟩ := hf it (by simp)
    refine wpAny_pyNext_list_item st p.isList (x := u) (by simpa using hu) fun h' st' sb => ?_
    have I1 : Inv X pins σ H { s with heap := h' } := I.turned (t' := s.toks) (fun b o hb e => (sb.2 b hb).trans e) f0 f1 f3 f4 f5
    obtain ⟨o, e, c, d⟩ := id st'
    exact ⟨u, rfl, go_of (s := { s with heap := h' }) e c d (by decide) ⟨x, H, I1, ru, ⟨rfl, fun ys hy => by rw [I.list_inj hy hq]; exact hx⟩, st', fun b hb => (hf b hb).1⟩⟩
  done := by
    intro X hP hw hK hc i pins s σ H E I hf st hg
    subst hP hw hK
    obtain ⟨xs, hq, hx⟩ := hg
    obtain ⟨its, rv, p, hz⟩ := I.list hq
    obtain ⟨f0, f1, f2, f3, f4, f5⟩ := hf it (by simp)
    have hl := rv.length
    exact wpAny_pyNext_list_end (I.ok.hd hc) st p.isList (by simp; omega) fun h' eb => ⟨rfl, I.turned (t' := s.toks) (fun b o hb e => eb b o hb e) f0 f1 f3 f4 f5⟩
  self := fun _ _ _ _ _ st h => wpAny_pyIter_listiter st h
theorem turn_range {P : Program} {w : World} {K : PySem.W.Frag} {tg : Expr} (it : Addr) (lo : Int) (n : Nat) : Turn P w K tg (Itr lo n) [it] it (fun i h => IsRangeIter h it (lo + (i : Nat) * 1) ((n : Int) - (i : Nat)) 1) where
  mem := by simp
  obj := fun i h st b hb => by
    have e : b = it := by simpa using hb
    subst e
    exact ⟨_, st, fun v z => by
      have z' : Data.fields _ = Data.cell v := z
      cases z'⟩
  keep := fun i h h' st k => k it (by simp) _ st
  item := by
    intro X hP hw hK hc i pins s σ H E I hf st hg
    subst hP hw hK
    obtain ⟨f0, f1, f2, f3, f4, f5⟩ := hf it (by simp)
    have W := Walks.range (prog := X.prog) (w := X.w) (I.ok.hd hc) it lo 1 n
    refine W.item i s _ _ hg st fun v h' tk hv st' kk => ?_
    obtain ⟨t, rfl⟩ := hv
    have I1 : Inv X pins σ H { s with heap := h', toks := tk } := I.turned (fun b o hb e => kk b o (by simpa using hb) e) f0 f1 f3 f4 f5
    refine ⟨_, rfl, go_of (s := { s with heap := h', toks := tk }) (n := "range_iterator") st' rfl rfl (by decide) ⟨.int (lo + i), H, I1, ⟨t, ?_⟩, ⟨rfl, rfl⟩, st', fun b hb => (hf b hb).1⟩⟩
    rw [Int.mul_one]
  done := by
    intro X hP hw hK hc i pins s σ H E I hf st hg
    subst hP hw hK
    obtain ⟨f0, f1, f2, f3, f4, f5⟩ := hf it (by simp)
    exact wpAny_pyNext_range_end (I.ok.hd hc) st (by have : n ≤ i := hg; omega) fun h' eb => ⟨rfl, I.turned (t' := s.toks) (fun b o hb e => eb b o hb e) f0 f1 f3 f4 f5⟩
  self := fun _ _ _ _ _ st h => wpAny_pyIter_rangeiter st h
end L2
namespace L2
open PySem PySem.Spec PyProof.Rows
section
variable {X : Cx} {tg : Expr}
noncomputable def iList (K : PySem.W.Frag) (tl : TE) : TI := fun σ H R => tl σ H fun x H1 => ∃ a, x = .ref a ∧ (∃ xs, SqL K H1 a xs) ∧ R (Itl K a) H1
theorem pi_list {l : Expr} {tl : TE} (hl : PE X l tl) : PI X tg l (iList X.K tl) := by
  intro pins s σ H R I h
  refine thn (hl pins s σ H _ I h) fun v s1 ⟨x, H1, I1, r1, q1⟩ => ?_
  obtain ⟨a, e, ⟨xs, hq⟩, q⟩ := q1
  subst e
  cases r1
  obtain ⟨its, rv, p, hz⟩ := I1.list hq
  refine wpAny_pyIter_list p.isList ?_
  refine ⟨s1.heap.objs.size, [s1.heap.objs.size], _, _, H1, rfl, I1.kept (t' := s1.toks) fun b o e => Heap.get?_push_of_some _ e, turn_list a _, ⟨_, Heap.get?_push_size _ rfl, rfl, rfl⟩, fun b hb => ?_, q⟩
  have e : b = s1.heap.objs.size := by simpa using hb
  subst e
  exact I1.fpOk (Nat.le_refl _) (I1.hok.fresh (Nat.le_refl _))
theorem range_it {pins : List (Addr × Obj)} {σ : St} {H : Hp} {s : Shared} {R : It → Hp → Prop} {E : Value → Shared → Prop} {lo hi : Int} {t u v : Tok} {tk : Nat} (I : Inv X pins σ H s) (h1 : -(2 ^ 62) ≤ lo) (h2 : lo < 2 ^ 62) (h3 : -(2 ^ 62) ≤ hi) (h4 : hi < 2 ^ 62)
    (q : R (Itr lo (hi - lo).toNat) H) : wpAny (model X.prog X.w) X.A (pyIter (.ref s.heap.objs.size)) (PIE X pins σ tg R) E { s with heap := s.heap.push { cls := .type "range", data := .fields #[.int lo t, .int hi u, .int 1 v] }, toks := tk } := by
  refine wpAny_pyIter_range (IsRange.new ..) (small_one h1 h2 h3 h4) ?_
  have I1 : Inv X pins σ H { s with heap := s.heap.push { cls := .type "range", data := .fields #[.int lo t, .int hi u, .int 1 v] }, toks := tk } := I.kept fun b o e => Heap.get?_push_of_some _ e
  refine ⟨(s.heap.push { cls := .type "range", data := .fields #[.int lo t, .int hi u, .int 1 v] }).objs.size, [(s.heap.push { cls := .type "range", data := .fields #[.int lo t, .int hi u, .int 1 v] }).objs.size], _, _, H, rfl,
    I1.kept (t' := tk) fun b o e => Heap.get?_push_of_some _ e, turn_range _ lo (hi - lo).toNat, ?_, fun b hb => ?_, q⟩
  · have e1 : lo + ((0 : Nat) : Int) * 1 = lo := by simp
    have e2 : (((hi - lo).toNat : Nat) : Int) - ((0 : Nat) : Int) = Builtin.Range.rangeSize lo hi 1 := by rw [rangeSize_one]; split <;> omega
    show IsRangeIter _ _ (lo + ((0 : Nat) : Int) * 1) ((((hi - lo).toNat : Nat) : Int) - ((0 : Nat) : Int)) 1
    rw [e1, e2]
    exact Heap.get?_push_size _ rfl
  · have e : b = (s.heap.push { cls := .type "range", data := .fields #[.int lo t, .int hi u, .int 1 v] }).objs.size := by simpa using hb
    subst e
    exact I1.fpOk (Nat.le_refl _) (I1.hok.fresh (Nat.le_refl _))
noncomputable def iRng1 (ta : TA) : TI := fun σ H R => ta σ H fun vs H1 => ∃ j : Int, vs = [.int j] ∧ -(2 ^ 62) ≤ j ∧ j < 2 ^ 62 ∧ R (Itr 0 j.toNat) H1
noncomputable def iRng2 (ta : TA) : TI := fun σ H R => ta σ H fun vs H1 => ∃ i j : Int, vs = [.int i, .int j] ∧ (-(2 ^ 62) ≤ i ∧ i < 2 ^ 62 ∧ -(2 ^ 62) ≤ j ∧ j < 2 ^ 62) ∧ R (Itr i (j - i).toNat) H1
theorem pi_range1 {a : Expr} {ta : TA} {p pos : Pos} (hg : Gl X "range") (hm : X.mg "range" = none) (ha : PA X [a] ta) (hs : starEach [a] X.env = [(false, eval a X.env)] := by rfl) : PI X tg (.Call (.Name "range" p) [a] [] pos) (iRng1 ta) := by
  intro pins s σ H R I h
  refine Call_ (ld_blt I hg hm boot_range (PyProof.Rows.callWith_type1 (thn (ha pos pins s σ H _ I h) fun us s1 ⟨vs, H1, I1, r1, q1⟩ => ?_) hs rfl))
  obtain ⟨j, e, q1, q2, q⟩ := q1
  subst e
  cases r1 with
  | cons r rr =>
    cases rr
    obtain ⟨t, rfl⟩ := r
    exact call_range_1 (range_it I1 (by omega) (by omega) q1 q2 (by simpa using q))
theorem pi_range2 {a b : Expr} {ta : TA} {p pos : Pos} (hg : Gl X "range") (hm : X.mg "range" = none) (ha : PA X [a, b] ta) (hs : starEach [a, b] X.env = [(false, eval a X.env), (false, eval b X.env)] := by rfl) (hs2 : starEach [b] X.env = [(false, eval b X.env)] := by rfl) :
    PI X tg (.Call (.Name "range" p) [a, b] [] pos) (iRng2 ta) := by
  intro pins s σ H R I h
  refine Call_ (ld_blt I hg hm boot_range (PyProof.Rows.callWith_type1 (thn (ha pos pins s σ H _ I h) fun us s1 ⟨vs, H1, I1, r1, q1⟩ => ?_) (by rw [hs, hs2]) (by rw [hs2]; rfl)))
  obtain ⟨i, j, e, ⟨q1, q2, q3, q4⟩, q⟩ := q1
  subst e
  cases r1 with
  | cons r rr =>
    cases rr with
    | cons r' rr =>
      cases rr
      obtain ⟨t, rfl⟩ := r
      obtain ⟨t', rfl⟩ := r'
      exact call_range_2 (range_it I1 q1 q2 q3 q4 q)
noncomputable def tFor (wi : TI) (g : TG) (tb : TS) : TS := fun D σ H => wi σ H fun J H1 => ∃ W : Nat → Nat → St → Hp → Prop, (∃ m, W 0 m σ H1) ∧ ∀ i m σ H, W i m σ H →
  (J.stop i H ∧ D.nx σ H) ∨ (J.go i H ∧ ∃ N : St → Hp → Prop, (∀ σ' H', N σ' H' → ∃ m', m' < m ∧ W (i + 1) m' σ' H') ∧ ∀ x H', J.yld i H x H' → g x σ H' fun σ2 H2 => tb { D with nx := N, ct := N, bk := D.nx } σ2 H2)
noncomputable def pinsAt (fp : List Addr) (h : Heap) : List (Addr × Obj) := fp.filterMap fun b => (h.get? b).map fun o => (b, o)
theorem mem_pinsAt {fp : List Addr} {h : Heap} {b : Addr} {o : Obj} (hb : b ∈ fp) (e : h.get? b = some o) : (b, o) ∈ pinsAt fp h := List.mem_filterMap.mpr ⟨b, hb, by rw [e]; rfl⟩
theorem of_pinsAt {fp : List Addr} {h : Heap} {p : Addr × Obj} (hp : p ∈ pinsAt fp h) : p.1 ∈ fp ∧ h.get? p.1 = some p.2 := by
  obtain ⟨b, hb, e⟩ := List.mem_filterMap.mp hp
  cases q : h.get? b with
  | none => rw [q] at e; cases e
  | some o =>
    rw [q] at e
    have e' : (b, o) = p := Option.some.inj e
    subst e'
    exact ⟨hb, q⟩
theorem Inv.pinned {pins : List (Addr × Obj)} {σ : St} {H : Hp} {s : Shared} {fp : List Addr} (I : Inv X pins σ H s) (hf : ∀ b ∈ fp, FpOk X pins H b) (ho : ∀ b ∈ fp, ∃ o, s.heap.get? b = some o ∧ ∀ v, o.data ≠ .cell v) : Inv X (pins ++ pinsAt fp s.heap) σ H s :=
  I.pins_of fun p hp => (List.mem_append.mp hp).elim (fun z => I.pin p (List.mem_append_right _ z)) fun z => by
    obtain ⟨hb, e⟩ := of_pinsAt z
    obtain ⟨f0, f1, f2, _⟩ := hf p.1 hb
    obtain ⟨o, e', d⟩ := ho p.1 hb
    rw [e] at e'; cases e'
    exact ⟨e, f0, f1, f2, d⟩
theorem Inv.unpinned {pins pl : List (Addr × Obj)} {σ : St} {H : Hp} {s : Shared} (I : Inv X (pins ++ pl) σ H s) : Inv X pins σ H s := I.pins_of fun p hp => I.pin p (List.mem_append_right _ (List.mem_append_left _ hp))
theorem ps_for {iter : Expr} {body : List Stmt} {wi : TI} {g : TG} {tb : TS} {pos : Pos} (hp : PassesOwn (model X.prog X.w) X.A X.env X.xe) (hc : X.calm = true) (hi : PI X tg iter wi) (hg : PG X tg g) (hb : PSs X body tb)
    (hs : ∀ x, foldedSetIterable iter X.env x = pure x := by intro _; rfl) : PS X (.For tg iter body [] pos) (tFor wi g tb) := by
  intro pins s σ H D I h
  refine wpAny_For (thn (hi pins s σ H _ I h) fun v s1 h1 => thn h1 fun itv s2 h2 => ?_) hs
  obtain ⟨it, fp, tn, J, H2, e, I2, T, st2, f2, W, ⟨m0, w0⟩, turn⟩ := h2
  subst e
  have stat : ∀ {H' : Hp}, (∀ b ∈ fp, H' b = none) → ∀ b ∈ fp, FpOk X pins H' b := fun hn b hb => ⟨hn b hb, (f2 b hb).2⟩
  refine codeAny_forLoop_any (fun n s' => ∃ i σ' H', Inv X pins σ' H' s' ∧ tn i s'.heap ∧ (∀ b ∈ fp, H' b = none) ∧ W i n σ' H') ?_ m0 ⟨0, σ, H2, I2, st2, fun b hb => (f2 b hb).1, w0⟩
  rintro n s3 ⟨i, σ3, H3, I3, st3, fr3, w3⟩
  rcases turn i n σ3 H3 w3 with ⟨stop, qn⟩ | ⟨go, N, hN, step⟩
  · refine wpAny_passesOwn hp (thn (T.done X rfl rfl rfl hc i pins s3 σ3 H3 X.xe I3 (stat fr3) st3 stop) fun r s4 ⟨hr, I4⟩ => ?_)
    subst hr
    exact wpAny_execs_nil ⟨σ3, H3, I4, qn⟩
  · refine wpAny_passesOwn hp (thn (T.item X rfl rfl rfl hc i pins s3 σ3 H3 X.xe I3 (stat fr3) st3 go) fun r s4 ⟨u, hr, h4⟩ => ?_)
    subst hr
    refine wpAny_passesOwn hp (thn h4 fun _ s5 ⟨x, H5, I5, r5, y5, st5, fr5⟩ => ?_)
    have I5' := I5.pinned (stat fr5) (T.obj _ _ st5)
    refine wpAny_passesOwn hp (thn (hg _ s5 σ3 H5 x u _ I5' r5 (step x H5 y5)) fun _ s6 ⟨σ6, H6, I6, q6⟩ => ?_)
    refine wpAny_passesOwn hp (thn (hb _ s6 σ6 H6 _ I6 q6) fun f s7 q7 => ?_)
    have again : ∀ {σ7 : St} {H7 : Hp}, Inv X (pins ++ pinsAt fp s5.heap) σ7 H7 s7 → N σ7 H7 → ∃ m, m < n ∧ ∃ i σ' H', Inv X pins σ' H' s7 ∧ tn i s7.heap ∧ (∀ b ∈ fp, H' b = none) ∧ W i m σ' H' := fun {σ7 H7} I7 n7 => by
      obtain ⟨m', hm, w7⟩ := hN σ7 H7 n7
      refine ⟨m', hm, i + 1, σ7, H7, I7.unpinned, T.keep _ _ _ st5 fun b hb o e => (I7.pin (b, o) (List.mem_append_right _ (List.mem_append_right _ (mem_pinsAt hb e)))).1, fun b hb => ?_, w7⟩
      obtain ⟨o, e, d⟩ := T.obj _ _ st5 b hb
      exact (I7.pin (b, o) (List.mem_append_right _ (List.mem_append_right _ (mem_pinsAt hb e)))).2.1
    cases f with
    | next => obtain ⟨σ7, H7, I7, n7⟩ := q7; exact again I7 n7
    | cont => obtain ⟨σ7, H7, I7, n7⟩ := q7; exact again I7 n7
    | brk => obtain ⟨σ7, H7, I7, q7⟩ := q7; exact ⟨σ7, H7, I7.unpinned, q7⟩
    | ret v => obtain ⟨x7, σ7, H7, I7, r7, q7⟩ := q7; exact ⟨x7, σ7, H7, I7.unpinned, r7, q7⟩
end
end L2
namespace L2
open PySem PySem.Spec PyProof.Rows
noncomputable abbrev R2 := V → V → Hp → VK → Prop
noncomputable def OpR (X : Cx) (f : Value → Value → Sem Value) (r : R2) : Prop :=
  ∀ (pins : List (Addr × Obj)) (s : Shared) (σ : St) (H : Hp) (x y : V) (v u : Value) (Q : VK), Inv X pins σ H s → RelV x v → RelV y u → r x y H Q →
    wpAny (model X.prog X.w) X.A (f v u) (EP X pins σ Q) X.xe s
noncomputable def UnR (X : Cx) (f : Value → Sem Value) (r : V → Hp → VK → Prop) : Prop :=
  ∀ (pins : List (Addr × Obj)) (s : Shared) (σ : St) (H : Hp) (x : V) (v : Value) (Q : VK), Inv X pins σ H s → RelV x v → r x H Q →
    wpAny (model X.prog X.w) X.A (f v) (EP X pins σ Q) X.xe s
noncomputable def CallR (X : Cx) (f : Value) (r : List V → Hp → VK → Prop) : Prop :=
  ∀ (pins : List (Addr × Obj)) (s : Shared) (σ : St) (H : Hp) (xs : List V) (us : List Value) (Q : VK), Inv X pins σ H s → Vals xs us → r xs H Q →
    wpAny (model X.prog X.w) X.A (call f us) (EP X pins σ Q) X.xe s
noncomputable def tOp (r : R2) (ta tb : TE) : TE := fun σ H Q => ta σ H fun x H1 => tb σ H1 fun y H2 => r x y H2 Q
noncomputable def tUn (r : V → Hp → VK → Prop) (ta : TE) : TE := fun σ H Q => ta σ H fun x H1 => r x H1 Q
noncomputable def rI (C : Int → Int → Prop) (g : Int → Int → V) : R2 := fun x y H Q => ∃ i j, x = .int i ∧ y = .int j ∧ C i j ∧ Q (g i j) H
noncomputable def rI0 (g : Int → Int → V) : R2 := fun x y H Q => ∃ i j, x = .int i ∧ y = .int j ∧ Q (g i j) H
noncomputable def rU (g : Int → V) : V → Hp → VK → Prop := fun x H Q => ∃ i, x = .int i ∧ Q (g i) H
section
variable {X : Cx} {a b c : Expr} {ta tb tc : TE} {pos : Pos}
theorem binT (ha : PE X a ta) (hb : PE X b tb) {pins : List (Addr × Obj)} {s : Shared} {σ : St} {H : Hp} {R : V → V → Hp → Prop} (I : Inv X pins σ H s)
    (h : ta σ H fun x H1 => tb σ H1 fun y H2 => R x y H2) {Q : Value → Shared → Prop} {f : Value → Value → Sem Value}
    (hf : ∀ v u s2 x y H2, Inv X pins σ H2 s2 → RelV x v → RelV y u → R x y H2 → wpAny (model X.prog X.w) X.A (f v u) Q X.xe s2) :
    wpAny (model X.prog X.w) X.A (eval a X.env) (fun v s₁ => wpAny (model X.prog X.w) X.A (eval b X.env) (fun u s₂ => wpAny (model X.prog X.w) X.A (f v u) Q X.xe s₂) X.xe s₁) X.xe s := by
  refine thn (ha pins s σ H _ I h) fun v s1 ⟨x, H1, I1, r1, q1⟩ => ?_
  refine thn (hb pins s1 σ H1 _ I1 q1) fun u s2 ⟨y, H2, I2, r2, q2⟩ => ?_
  exact hf v u s2 x y H2 I2 r1 r2 q2
theorem pe_op {op : Operator} {r : R2} (ho : OpR X (binaryOp op) r) (ha : PE X a ta) (hb : PE X b tb) : PE X (.BinOp a op b pos) (tOp r ta tb) := by
  intro pins s σ H Q I h
  exact wpAny_BinOp (binT ha hb I h fun v u s2 x y H2 I2 rx ry q => ho pins s2 σ H2 x y v u Q I2 rx ry q)
theorem pe_un {op : UnaryOp} {r : V → Hp → VK → Prop} (ho : UnR X (unaryOp op) r) (ha : PE X a ta) : PE X (.UnaryOp op a pos) (tUn r ta) := by
  intro pins s σ H Q I h
  exact UnaryOp_ (thn (ha pins s σ H _ I h) fun v s1 ⟨x, H1, I1, r1, q1⟩ => ho pins s1 σ H1 x v Q I1 r1 q1)
theorem opI {f : Value → Value → Sem Value} {C : Int → Int → Prop} {g : Int → Int → Int}
    (rule : ∀ (i j : Int) (t u : Tok) (s : Shared) (Q : Value → Shared → Prop) (E : Value → Shared → Prop), C i j → Q (.int (g i j) s.toks) { s with toks := s.toks + 1 } → wpAny (model X.prog X.w) X.A (f (.int i t) (.int j u)) Q E s) :
    OpR X f (rI C fun i j => .int (g i j)) := by
  intro pins s σ H x y v u Q I rx ry h
  obtain ⟨i, j, rfl, rfl, hc, q⟩ := h
  obtain ⟨t, rfl⟩ := rx
  obtain ⟨t', rfl⟩ := ry
  exact rule i j t t' s _ _ hc ⟨.int (g i j), H, I.tok _, ⟨_, rfl⟩, q⟩
theorem opI0 {f : Value → Value → Sem Value} {g : Int → Int → Int}
    (rule : ∀ (i j : Int) (t u : Tok) (s : Shared) (Q : Value → Shared → Prop) (E : Value → Shared → Prop), Q (.int (g i j) s.toks) { s with toks := s.toks + 1 } → wpAny (model X.prog X.w) X.A (f (.int i t) (.int j u)) Q E s) :
    OpR X f (rI0 fun i j => .int (g i j)) := by
  intro pins s σ H x y v u Q I rx ry h
  obtain ⟨i, j, rfl, rfl, q⟩ := h
  obtain ⟨t, rfl⟩ := rx
  obtain ⟨t', rfl⟩ := ry
  exact rule i j t t' s _ _ ⟨.int (g i j), H, I.tok _, ⟨_, rfl⟩, q⟩
theorem opB0 {f : Value → Value → Sem Value} {g : Int → Int → Bool}
    (rule : ∀ (i j : Int) (t u : Tok) (s : Shared) (Q : Value → Shared → Prop) (E : Value → Shared → Prop), Q (.bool (g i j)) s → wpAny (model X.prog X.w) X.A (f (.int i t) (.int j u)) Q E s) :
    OpR X f (rI0 fun i j => .bl (g i j)) := by
  intro pins s σ H x y v u Q I rx ry h
  obtain ⟨i, j, rfl, rfl, q⟩ := h
  obtain ⟨t, rfl⟩ := rx
  obtain ⟨t', rfl⟩ := ry
  exact rule i j t t' s _ _ ⟨.bl (g i j), H, I, rfl, q⟩
noncomputable def CMul (i j : Int) : Prop := (-(2 ^ 64) < i ∧ i < 2 ^ 64) ∨ (-(2 ^ 64) < j ∧ j < 2 ^ 64)
theorem CMul.ok {i j : Int} (h : CMul i j) : IntMulOk i j := by
  rcases h with ⟨h1, h2⟩ | ⟨h1, h2⟩
  · exact .of_left (intBits_le_64 h1 h2)
  · exact .of_right (intBits_le_64 h1 h2)
theorem op_add : OpR X (binaryOp .Add) (rI0 fun i j => .int (i + j)) := opI0 fun _ _ _ _ _ _ _ q => add_int q
theorem op_sub : OpR X (binaryOp .Sub) (rI0 fun i j => .int (i - j)) := opI0 fun _ _ _ _ _ _ _ q => sub_int q
theorem op_mod : OpR X (binaryOp .Mod) (rI (fun _ j => 0 < j) fun i j => .int (i % j)) := opI fun i j _ _ _ _ _ hc q => by
  have h1 : (0 : Int) < j := hc
  exact mod_int' (by omega) (by rw [Int.fmod_eq_emod_of_nonneg i (by omega)]; exact q)
theorem unI {f : Value → Sem Value} {g : Int → Int}
    (rule : ∀ (i : Int) (t : Tok) (s : Shared) (Q : Value → Shared → Prop) (E : Value → Shared → Prop), Q (.int (g i) s.toks) { s with toks := s.toks + 1 } → wpAny (model X.prog X.w) X.A (f (.int i t)) Q E s) :
    UnR X f (rU fun i => .int (g i)) := by
  intro pins s σ H x v Q I rx h
  obtain ⟨i, rfl, q⟩ := h
  obtain ⟨t, rfl⟩ := rx
  exact rule i t s _ _ ⟨.int (g i), H, I.tok _, ⟨_, rfl⟩, q⟩
theorem un_neg : UnR X (unaryOp .USub) (rU fun i => .int (-i)) := unI fun _ _ _ _ _ q => neg_int q
end
noncomputable def scal : V → V → Bool
  | .non, .non => true | .non, .int _ => true | .int _, .non => true | .non, .bl _ => true | .bl _, .non => true | .non, .str _ => true | .str _, .non => true
  | .int _, .int _ => true | .bl _, .bl _ => true | .str _, .str _ => true | .byt _, .byt _ => true
  | .int _, .str _ => true | .str _, .int _ => true | .bl _, .str _ => true | .str _, .bl _ => true
  | _, _ => false
noncomputable def rEq : R2 := fun x y H Q => scal x y = true ∧ Q (.bl (decide (x = y))) H
noncomputable def rNe : R2 := fun x y H Q => scal x y = true ∧ Q (.bl (!decide (x = y))) H
theorem dec_int {i j : Int} : decide (V.int i = V.int j) = (i == j) := by
  rw [Bool.eq_iff_iff]
  simp
theorem dec_bl {i j : Bool} : decide (V.bl i = V.bl j) = (i == j) := by
  rw [Bool.eq_iff_iff]
  simp
theorem dec_str {i j : Str} : decide (V.str i = V.str j) = (i == j) := by
  rw [Bool.eq_iff_iff]
  simp
theorem dec_byt {i j : Array UInt8} : decide (V.byt i = V.byt j) = (i.toList == j.toList) := by
  rw [Bool.eq_iff_iff]
  cases i
  cases j
  simp
section
variable {X : Cx} {a b c : Expr} {ta tb tc : TE} {pos : Pos}
theorem fin_bl {pins : List (Addr × Obj)} {σ : St} {H : Hp} {s : Shared} {Q : VK} {k k' : Bool} (I : Inv X pins σ H s) (q : Q (.bl k) H) (e : k = k') : EP X pins σ Q (.bool k') s := by
  subst e
  exact ⟨.bl k, H, I, rfl, q⟩
theorem op_eq : OpR X (compareOp .Eq) rEq := by
  intro pins s σ H x y v u Q I rx ry h
  obtain ⟨hs, q⟩ := h
  cases x with
  | non =>
    cases rx
    cases y with
    | non => cases ry; exact PySem.EqNone.eq_none_none (fin_bl I q (by simp))
    | bl j => cases ry; exact PySem.EqNone.eq_none_bool (fin_bl I q (by simp))
    | int j => obtain ⟨t', rfl⟩ := ry; exact PySem.EqNone.eq_none_int (fin_bl I q (by simp))
    | str j => obtain ⟨t', rfl⟩ := ry; exact PySem.EqNone.eq_none_str (fin_bl I q (by simp))
    | _ => exact absurd (show false = true from hs) Bool.false_ne_true
  | bl i =>
    cases rx
    cases y with
    | non => cases ry; exact PySem.EqNone.eq_bool_none (fin_bl I q (by simp))
    | bl j => cases ry; exact eq_bool (fin_bl I q dec_bl)
    | str j => obtain ⟨t', rfl⟩ := ry; exact PySem.EqMixed.eq_bool_str (fin_bl I q (by simp))
    | _ => exact absurd (show false = true from hs) Bool.false_ne_true
  | int i =>
    obtain ⟨t, rfl⟩ := rx
    cases y with
    | non => cases ry; exact PySem.EqNone.eq_int_none (fin_bl I q (by simp))
    | int j => obtain ⟨t', rfl⟩ := ry; exact eq_int (fin_bl I q dec_int)
    | str j => obtain ⟨t', rfl⟩ := ry; exact PySem.EqMixed.eq_int_str (fin_bl I q (by simp))
    | _ => exact absurd (show false = true from hs) Bool.false_ne_true
  | str i =>
    obtain ⟨t, rfl⟩ := rx
    cases y with
    | non => cases ry; exact PySem.EqNone.eq_str_none (fin_bl I q (by simp))
    | bl j => cases ry; exact PySem.EqMixed.eq_str_bool (fin_bl I q (by simp))
    | int j => obtain ⟨t', rfl⟩ := ry; exact PySem.EqMixed.eq_str_int (fin_bl I q (by simp))
    | str j => obtain ⟨t', rfl⟩ := ry; exact eq_str (fin_bl I q dec_str)
    | _ => exact absurd (show false = true from hs) Bool.false_ne_true
  | byt i =>
    obtain ⟨t, rfl⟩ := rx
    cases y with
    | byt j => obtain ⟨t', rfl⟩ := ry; exact PySem.W.eq_bytes (fin_bl I q dec_byt)
    | _ => exact absurd (show false = true from hs) Bool.false_ne_true
  | _ => cases y <;> exact absurd (show false = true from hs) Bool.false_ne_true
theorem op_ne : OpR X (compareOp .NotEq) rNe := by
  intro pins s σ H x y v u Q I rx ry h
  obtain ⟨hs, q⟩ := h
  cases x with
  | non =>
    cases rx
    cases y with
    | non => cases ry; exact PySem.EqNone.ne_none_none (fin_bl I q (by simp))
    | bl j => cases ry; exact PySem.EqNone.ne_none_bool (fin_bl I q (by simp))
    | int j => obtain ⟨t', rfl⟩ := ry; exact PySem.EqNone.ne_none_int (fin_bl I q (by simp))
    | str j => obtain ⟨t', rfl⟩ := ry; exact PySem.EqNone.ne_none_str (fin_bl I q (by simp))
    | _ => exact absurd (show false = true from hs) Bool.false_ne_true
  | bl i =>
    cases rx
    cases y with
    | non => cases ry; exact PySem.EqNone.ne_bool_none (fin_bl I q (by simp))
    | bl j => cases ry; exact ne_bool (fin_bl I q (congrArg not dec_bl))
    | str j => obtain ⟨t', rfl⟩ := ry; exact PySem.EqMixed.ne_bool_str (fin_bl I q (by simp))
    | _ => exact absurd (show false = true from hs) Bool.false_ne_true
  | int i =>
    obtain ⟨t, rfl⟩ := rx
    cases y with
    | non => cases ry; exact PySem.EqNone.ne_int_none (fin_bl I q (by simp))
    | int j => obtain ⟨t', rfl⟩ := ry; exact ne_int (fin_bl I q (congrArg not dec_int))
    | str j => obtain ⟨t', rfl⟩ := ry; exact PySem.EqMixed.ne_int_str (fin_bl I q (by simp))
    | _ => exact absurd (show false = true from hs) Bool.false_ne_true
  | str i =>
    obtain ⟨t, rfl⟩ := rx
    cases y with
    | non => cases ry; exact PySem.EqNone.ne_str_none (fin_bl I q (by simp))
    | bl j => cases ry; exact PySem.EqMixed.ne_str_bool (fin_bl I q (by simp))
    | int j => obtain ⟨t', rfl⟩ := ry; exact PySem.EqMixed.ne_str_int (fin_bl I q (by simp))
    | str j => obtain ⟨t', rfl⟩ := ry; exact ne_str (fin_bl I q (congrArg not dec_str))
    | _ => exact absurd (show false = true from hs) Bool.false_ne_true
  | byt i =>
    obtain ⟨t, rfl⟩ := rx
    cases y with
    | byt j => obtain ⟨t', rfl⟩ := ry; exact PySem.W.ne_bytes (fin_bl I q (congrArg not dec_byt))
    | _ => exact absurd (show false = true from hs) Bool.false_ne_true
  | _ => cases y <;> exact absurd (show false = true from hs) Bool.false_ne_true
theorem op_lt : OpR X (compareOp .Lt) (rI0 fun i j => .bl (decide (i < j))) := opB0 fun _ _ _ _ _ _ _ q => lt_int q
theorem op_le : OpR X (compareOp .LtE) (rI0 fun i j => .bl (decide (i ≤ j))) := opB0 fun _ _ _ _ _ _ _ q => le_int q
theorem op_gt : OpR X (compareOp .Gt) (rI0 fun i j => .bl (decide (j < i))) := opB0 fun _ _ _ _ _ _ _ q => gt_int q
theorem OpR.or {f : Value → Value → Sem Value} {r r' : R2} (h : OpR X f r) (h' : OpR X f r') : OpR X f (fun x y H Q => r x y H Q ∨ r' x y H Q) := by
  intro pins s σ H x y v u Q I rx ry q
  rcases q with q | q
  · exact h pins s σ H x y v u Q I rx ry q
  · exact h' pins s σ H x y v u Q I rx ry q
theorem nomark (b : Expr) {op : CmpOp} (h : op ≠ .In := by decide) (h2 : op ≠ .NotIn := by decide) : behindInMarks op b = false := by
  have e1 : (op == CmpOp.In) = false := by cases op <;> first | rfl | exact absurd rfl h
  have e2 : (op == CmpOp.NotIn) = false := by cases op <;> first | rfl | exact absurd rfl h2
  cases b <;> simp [behindInMarks, e1, e2]
theorem pe_cmpR {op : CmpOp} {r : R2} (ho : OpR X (compareOp op) r) (ha : PE X a ta) (hb : PE X b tb) (hm : behindInMarks op b = false) : PE X (.Compare a [op] [b] pos) (tOp r ta tb) := by
  intro pins s σ H Q I h
  exact wpAny_Compare1 (binT ha hb I h fun v u s2 x y H2 I2 rx ry q => ho pins s2 σ H2 x y v u Q I2 rx ry q) hm
noncomputable def tTest (t : TE) : TT := fun σ H Q => t σ H fun x H' => ∃ k, x = .bl k ∧ Q k H'
theorem pt_cmpR {op : CmpOp} {r : R2} (ho : OpR X (compareOp op) r) (ha : PE X a ta) (hb : PE X b tb) (hm : behindInMarks op b = false) : PT X (.Compare a [op] [b] pos) (tTest (tOp r ta tb)) := by
  intro pins s σ H Q I h
  refine wpAny_isTrue_Compare1 (thn (ha pins s σ H _ I h) fun v s1 ⟨x, H1, I1, r1, q1⟩ => thn (hb pins s1 σ H1 _ I1 q1) fun u s2 ⟨y, H2, I2, r2, q2⟩ =>
    thn (ho pins s2 σ H2 x y v u _ I2 r1 r2 q2) fun c s3 ⟨z, H3, I3, r3, k, e, q3⟩ => ?_) hm
  subst e
  cases r3
  exact wpAny_truthy_bool ⟨H3, I3, q3⟩
theorem line63 : (sizeLine : Nat) < 2 ^ 63 := by rw [sizeLine_eq]; decide
theorem vals1 {x : V} {us : List Value} (r : Vals [x] us) : ∃ u, us = [u] ∧ RelV x u := by
  cases r with
  | cons r1 r2 => cases r2; exact ⟨_, rfl, r1⟩
theorem vals2 {x y : V} {us : List Value} (r : Vals [x, y] us) : ∃ u w', us = [u, w'] ∧ RelV x u ∧ RelV y w' := by
  cases r with
  | cons r1 r2 =>
    cases r2 with
    | cons r3 r4 => cases r4; exact ⟨_, _, rfl, r1, r3⟩
theorem call_abs : CallR X (.builtin "abs") (fun xs H Q => ∃ i, xs = [.int i] ∧ Q (.int (if i < 0 then -i else i)) H) := by
  intro pins s σ H xs us Q I r h
  obtain ⟨i, rfl, q⟩ := h
  obtain ⟨u, rfl, t, rfl⟩ := vals1 r
  exact call_abs_int fun u tk => ⟨.int (if i < 0 then -i else i), H, I.tok _, ⟨_, rfl⟩, q⟩
theorem call_min2 (hc : X.calm = true) : CallR X (.builtin "min") (fun xs H Q => ∃ i j, xs = [.int i, .int j] ∧ Q (.int (if j < i then j else i)) H) := by
  intro pins s σ H xs us Q I r h
  obtain ⟨i, j, rfl, q⟩ := h
  obtain ⟨u, w', rfl, ⟨t, rfl⟩, ⟨t', rfl⟩⟩ := vals2 r
  refine min_two_ints (I.ok.hd hc) fun h' tk k => ⟨_, H, I.kept k, ?_, q⟩
  by_cases hj : j < i
  · rw [if_pos hj, if_pos hj]; exact ⟨_, rfl⟩
  · rw [if_neg hj, if_neg hj]; exact ⟨_, rfl⟩
end
end L2
namespace L2
open PySem PySem.Spec PyProof.Rows
structure ObjM (h : Heap) (x dx C : Addr) (mA : Str → Option Value) : Prop where
  obj : h.get? x = some (PySem.W.instObj C dx)
  ns : h.Ns1 dx mA
  ne : dx ≠ x
theorem lookIn_ns {h : Heap} {dx : Addr} {mA : Str → Option Value} (n : h.Ns1 dx mA) : ∃ od, h.get? dx = some od ∧ ∀ name, PySem.W.lookIn name od = some (mA name) := by
  obtain ⟨o, es, ep, ho, hd, hk, _, hm⟩ := n
  refine ⟨o, ho, fun name => ?_⟩
  have e := hm name
  unfold nsFind findBy at e
  rw [← Array.find?_toList] at e
  unfold PySem.W.lookIn
  rw [hd]
  dsimp only
  split
  · rename_i y q
    rw [q] at e
    exact congrArg some e
  · rename_i q
    rw [q] at e
    have a : es.toList.any (·.refKey) = false := by
      rw [List.any_eq_false]
      intro y hy
      obtain ⟨z, t, hkey⟩ := hk y (Array.mem_toList_iff.mp hy)
      simp [DictEntry.refKey, hkey]
    have a' : ¬ es.toList.any (·.refKey) = true := by rw [a]; exact Bool.false_ne_true
    rw [if_neg a']
    exact congrArg some e
theorem ObjM.look {h : Heap} {x dx C : Addr} {mA : Str → Option Value} (I : ObjM h x dx C mA) : ∃ od, PySem.W.InstAt h x (PySem.W.instObj C dx) C (some od) ∧ ∀ name, PySem.W.lookIn name od = some (mA name) :=
  let ⟨od, ho, hl⟩ := lookIn_ns I.ns
  ⟨od, ⟨I.obj, rfl, rfl, ho⟩, hl⟩
section
variable {prog : Program} {w : World} {A : Around} {E : Value → Shared → Prop} {s : Shared} {K : PySem.W.Frag} {x dx C f : Addr} {mA : Str → Option Value} {name : Str} {v : Value}
end
section
variable {P : Program} {w : World} {H H' : Hp} {h h' : Heap} {a C dx : Addr} {fs fs' : List (Str × V)}
theorem ins_get (hok : HOk P w H h) (e : H a = some (.ins C dx fs)) : ∃ mA, ObjM h a dx C mA ∧ (∀ f, RelO (fs.lookup f) (mA f)) ∧ PySem.Within mA (fs.map (·.1)) ∧ fs.length ≤ 1000 ∧ H dx = some (.own a) := by
  obtain ⟨d, z, ne, ob, mA, n, r, q⟩ := (show ObjOk P w H h a (.ins C dx fs) from hok a _ e)
  exact ⟨mA, ⟨ob, n, ne⟩, r, q, z, d⟩
end
structure Cls (K : PySem.W.Frag) (C : Addr) : Prop where
  pg : PySem.W.plainGet K C Str.empty = true
  hd : PySem.W.hasDictIn K C = true
  po : PySem.W.plainOver K C = true
  sa : PySem.W.findIn K (.ref C) "__setattr__" = some (some (.builtin "object.__setattr__"))
theorem Cls.get {K : PySem.W.Frag} {C : Addr} (c : Cls K C) (f : Str) : PySem.W.plainGet K C f = true := c.pg
structure Con (K : PySem.W.Frag) (C : Addr) (f : Str) (v : V) (u : Value) : Prop where
  at_ : PySem.W.findIn K (.ref C) f = some (some u)
  rel : RelV v u
  get : PySem.W.specialIn K u "__get__" = some none
  cp : PySem.W.copiedNames.contains f = false
structure Meth (K : PySem.W.Frag) (C : Addr) (m : Str) (f : Addr) : Prop where
  at_ : PySem.W.findIn K (.ref C) m = some (some (.ref f))
  fn : PySem.W.isFn K (.ref f) = true
  kp : PySem.W.keepIn K (.ref f) = true
section
variable {X : Cx} {pins : List (Addr × Obj)} {σ : St} {H : Hp} {s : Shared} {a C dx : Addr} {fs : List (Str × V)} {f : Str} {v : V} {A : Around} {E : Value → Shared → Prop}
theorem Inv.made (I : Inv X pins σ H s) : Inv X pins σ (upd (upd H s.heap.objs.size (.own (s.heap.objs.size + 1))) (s.heap.objs.size + 1) (.ins C s.heap.objs.size []))
    { s with heap := (s.heap.push PySem.W.emptyDict).push (PySem.W.instObj C s.heap.objs.size) } := by
  have e1 : (s.heap.push PySem.W.emptyDict).get? s.heap.objs.size = some PySem.W.emptyDict := Heap.get?_push_size s.heap rfl
  have e2 : ((s.heap.push PySem.W.emptyDict).push (PySem.W.instObj C s.heap.objs.size)).get? (s.heap.objs.size + 1) = some (PySem.W.instObj C s.heap.objs.size) := by
    have := Heap.get?_push_size (s.heap.push PySem.W.emptyDict) (o := PySem.W.instObj C s.heap.objs.size) rfl
    rwa [Heap.size_push] at this
  have e3 : (s.heap.push PySem.W.emptyDict).Ns s.heap.objs.size (fun _ => none) := ⟨PySem.W.emptyDict, #[], _, e1, rfl, (fun e he => absurd he (by simp)), fun _ => rfl⟩
  have I1 := I.laid (a := s.heap.objs.size) (o := .own (s.heap.objs.size + 1)) (h' := s.heap.push PySem.W.emptyDict) (t' := s.toks) (fun b u q => Heap.get?_push_of_some _ q) (Nat.le_refl _) ⟨_, e1⟩
  refine I1.laid (a := s.heap.objs.size + 1) (o := .ins C s.heap.objs.size []) (t' := s.toks) (fun b u q => Heap.get?_push_of_some _ q) (Nat.le_of_eq (Heap.size_push _ _)) ?_
  have ne : s.heap.objs.size ≠ s.heap.objs.size + 1 := Nat.ne_of_lt (Nat.lt_succ_self _)
  refine ⟨by rw [upd_ne ne, upd_same], Nat.zero_le _, ne, e2, fun _ => none, (Heap.Ns1.of_empty e3).at fun o q => Heap.get?_push_of_some _ q, fun _ => True.intro, fun y hy => absurd rfl hy⟩
end
section
variable {X : Cx} {o e value : Expr} {f : Str} {pos pos' tpos : Pos} {ta tv : TE}
end
section
variable {X : Cx} {pins : List (Addr × Obj)} {σ : St} {H : Hp} {s : Shared} {A : Around} {E : Value → Shared → Prop} {Q : Value → Shared → Prop} {c : Value} {b : Bool}
inductive TyOf (K : PySem.W.Frag) (H : Hp) : V → Value → Prop where
  | non : TyOf K H .non (.type "NoneType")
  | bl (x : Bool) : TyOf K H (.bl x) (.type "bool")
  | int (i : Int) : TyOf K H (.int i) (.type "int")
  | str (x : Str) : TyOf K H (.str x) (.type "str")
  | flt (x : UInt64) : TyOf K H (.flt x) (.type "float")
  | lst {a : Addr} {xs : List V} (e : H a = some (.lst xs)) : TyOf K H (.ref a) (.type "list")
  | frz {a : Addr} {o : Obj} {xs : List V} (e : H a = some (.frz o (.lst xs))) : TyOf K H (.ref a) (.type "list")
  | tup {a : Addr} {xs : List V} (e : H a = some (.tup xs)) : TyOf K H (.ref a) (.type "tuple")
  | dK {a : Addr} {kvs : List (Key × V)} (e : H a = some (.dK kvs)) : TyOf K H (.ref a) (.type "dict")
  | dT {a : Addr} {kvs : List (List Key × V)} (e : H a = some (.dT kvs)) : TyOf K H (.ref a) (.type "dict")
  | ins {a C dx : Addr} {fs : List (Str × V)} (e : H a = some (.ins C dx fs)) (cl : Cls K C) (ha : PySem.W.findIn K (.ref C) "__class__" = some (some (.builtin "object.__class__")))
      (hn : PySem.W.specialIn K (.builtin "object.__class__") "__get__" = some (some (.builtin "getset_descriptor.__get__"))) (htk : PySem.W.takesIn K (.builtin "object.__class__") = some true)
      (hm : PySem.W.mroIn K C (.type "object") = some true) : TyOf K H (.ref a) (.ref C)
theorem isinst_ok {x : V} {u t : Value} (I : Inv X pins σ H s) (rx : RelV x u) (ty : TyOf X.K H x t) (e : PySem.W.kitOne X.K t c = some b) (h : ∀ tk, Q (.bool b) { s with toks := tk }) :
    wpAny (model X.prog X.w) A (call (.builtin "isinstance") [u, c]) Q E s := by
  cases ty with
  | non => cases (show u = Value.none from rx); exact PySem.W.kia_one PySem.W.kitx_none I.kIn True.intro e (fun z => nomatch z) h
  | bl y => cases (show u = Value.bool y from rx); exact PySem.W.kia_one PySem.W.kitx_bool I.kIn True.intro e (fun z => nomatch z) h
  | int i => obtain ⟨t, q⟩ := (show ∃ t, u = Value.int i t from rx); cases q; exact PySem.W.kia_one PySem.W.kitx_int I.kIn True.intro e (fun z => nomatch z) h
  | str y => obtain ⟨t, q⟩ := (show ∃ t, u = Value.str y t from rx); cases q; exact PySem.W.kia_one PySem.W.kitx_str I.kIn True.intro e (fun z => nomatch z) h
  | flt y => obtain ⟨t, q⟩ := (show ∃ t, u = Value.float y t from rx); cases q; exact PySem.W.kia_one PySem.W.kitx_float I.kIn True.intro e (fun z => nomatch z) h
  | @lst a xs ea =>
    cases (show u = Value.ref a from rx)
    obtain ⟨_, _, n, _, h1⟩ := (show ObjOk X.prog X.w H s.heap a (.lst xs) from I.hok a _ ea)
    exact PySem.W.kia_one PySem.W.kitx_list I.kIn ⟨_, h1, rfl⟩ e (fun z => nomatch z) h
  | @frz a ob xs ea =>
    cases (show u = Value.ref a from rx)
    obtain ⟨_, _, _, n, _, h1⟩ := (show ObjOk X.prog X.w H s.heap a (.frz ob (.lst xs)) from I.hok a _ ea)
    exact PySem.W.kia_one PySem.W.kitx_list I.kIn ⟨_, h1, rfl⟩ e (fun z => nomatch z) h
  | @tup a xs ea =>
    cases (show u = Value.ref a from rx)
    obtain ⟨_, _, _, p⟩ := (show ObjOk X.prog X.w H s.heap a (.tup xs) from I.hok a _ ea)
    obtain ⟨o, h1, h2, _⟩ := p
    exact PySem.W.kia_one PySem.W.kitx_tuple I.kIn ⟨o, h1, h2⟩ e (fun z => nomatch z) h
  | @dK a kvs ea =>
    cases (show u = Value.ref a from rx)
    obtain ⟨_, _, vs, _, p⟩ := (show ObjOk X.prog X.w H s.heap a (.dK kvs) from I.hok a _ ea)
    obtain ⟨o, es, ep, h1, h2, _⟩ := p
    exact PySem.W.kia_one PySem.W.kitx_dict I.kIn ⟨o, h1, h2.1⟩ e (fun z => nomatch z) h
  | @dT a kvs ea =>
    cases (show u = Value.ref a from rx)
    obtain ⟨_, _, xs, _, o, es, ep, h1, h2, _⟩ := (show ObjOk X.prog X.w H s.heap a (.dT kvs) from I.hok a _ ea)
    exact PySem.W.kia_one PySem.W.kitx_dict I.kIn ⟨o, h1, h2.1⟩ e (fun z => nomatch z) h
  | @ins a C dx fs ea cl ha hn htk hm =>
    cases (show u = Value.ref a from rx)
    obtain ⟨mA, O, _⟩ := ins_get I.hok ea
    obtain ⟨od, J, _⟩ := O.look
    exact PySem.W.kia_one (PySem.W.kitx_own (cl.get _) cl.hd ha hn htk hm) I.kIn J e (fun z => nomatch z) h
end
end L2
namespace L2
open PySem PySem.Spec PyProof.Rows
structure Room (k : Nat) (A : Around) : Prop where
  hd : A.handled = none
  dp : A.depth + 3 * k + 5 < recursionLimit
  un : A.units + 16 * k + 200 < cLine
theorem Room.mono {j k : Nat} {A : Around} (r : Room k A) (h : j ≤ k) : Room j A := ⟨r.hd, by have := r.dp; omega, by have := r.un; omega⟩
theorem Room.deeper {k : Nat} {A : Around} (r : Room (k + 1) A) (env : Env) : Room k (A.deeper env) :=
  ⟨r.hd, by have := r.dp; show A.depth + 1 + 3 * k + 5 < _; omega, by have := r.un; show A.units + 3 + 16 * k + 200 < _; omega⟩
theorem Room.depth {k : Nat} {A : Around} (r : Room k A) : A.depth < recursionLimit := by have := r.dp; omega
theorem Room.units {k : Nat} {A : Around} (r : Room k A) : A.units + 64 < cLine := by have := r.un; omega
noncomputable def tNil : TA := fun _ H Q => Q [] H
noncomputable def tCons (ta : TE) (tr : TA) : TA := fun σ H Q => ta σ H fun x H1 => tr σ H1 fun xs H2 => Q (x :: xs) H2
section
variable {X : Cx} {e : Expr} {es : List Expr} {te : TE} {t : TA} {pos : Pos}
theorem pa_nil : PA X [] tNil := fun _ _ _ _ H Q I h => Calls.spliced_nil ⟨[], H, I, .nil, h⟩
theorem pa_cons (ha : PE X e te) (hr : PA X es t) (hs : starEach (e :: es) X.env = (false, eval e X.env) :: starEach es X.env := by rfl) : PA X (e :: es) (tCons te t) := by
  intro pos pins s σ H Q I h
  rw [hs]
  show wpAny _ _ (spliced ((false, eval e X.env) :: backTo pos (starEach es X.env))) _ _ s
  refine Calls.spliced_cons (thn (ha pins s σ H _ I h) fun u s1 ⟨x, H1, I1, r1, q1⟩ => ?_)
  exact thn (hr pos pins s1 σ H1 _ I1 q1) fun us s2 ⟨xs, H2, I2, r2, q2⟩ => ⟨x :: xs, H2, I2, .cons r1 r2, q2⟩
noncomputable def tTup (t : TA) : TE := fun σ H Q => t σ H fun xs H1 => xs.length ≤ sizeLine ∧ ∀ p, H1 p = none → Q (.ref p) (upd H1 p (.tup xs))
noncomputable def tLst (t : TA) : TE := fun σ H Q => t σ H fun xs H1 => xs.length ≤ sizeLine ∧ ∀ p, H1 p = none → Q (.ref p) (upd H1 p (.lst xs))
theorem pe_tup {x1} (h : PA X es t) : PE X (.Tuple es x1 pos) (tTup t) := by
  intro pins s σ H Q I hq
  refine wpAny_Tuple_spliced (thn (h pos pins s σ H _ I hq) fun us s1 ⟨xs, H1, I1, r, z, q⟩ => ⟨by rw [← r.length]; exact z, ?_⟩)
  have hf : H1 s1.heap.objs.size = none := I1.hok.fresh (Nat.le_refl _)
  refine ⟨.ref s1.heap.objs.size, upd H1 s1.heap.objs.size (.tup xs), I1.laid (t' := s1.toks) (fun b u e => Heap.get?_push_of_some _ e) (Nat.le_refl _) ?_, rfl, q _ hf⟩
  exact ⟨z, us, r, ⟨_, Heap.get?_push_size _ rfl, rfl, _, rfl⟩⟩
theorem pe_lst (h : PA X es t) : PE X (.List es pos) (tLst t) := by
  intro pins s σ H Q I hq
  refine wpAny_List_spliced (thn (h pos pins s σ H _ I hq) fun us s1 ⟨xs, H1, I1, r, z, q⟩ => ⟨by rw [← r.length]; exact z, ?_⟩)
  have hf : H1 s1.heap.objs.size = none := I1.hok.fresh (Nat.le_refl _)
  refine ⟨.ref s1.heap.objs.size, upd H1 s1.heap.objs.size (.lst xs), I1.laid (t' := s1.toks) (fun b u e => Heap.get?_push_of_some _ e) (Nat.le_refl _) ?_, rfl, q _ hf⟩
  exact ⟨z, us, 0, r, Heap.get?_push_size _ rfl⟩
end
noncomputable abbrev Sp := List V → Hp → VK → XK → Prop
noncomputable abbrev CXT := List Env → Hp → Shared → XK → Value → Shared → Prop
structure Env0 (P : Program) (w : World) (K : PySem.W.Frag) (mg : Str → Option Value) (base : Heap) (A : Around) (outer : List Env) (s : Shared) (H : Hp) : Prop where
  frames : A.frames = some outer
  mod : Mod K mg base
  bs : ∀ b o, base.get? b = some o → s.heap.get? b = some o ∧ H b = none
  bsz : base.objs.size ≤ s.heap.objs.size
  funs : s.heap.FunFrames base outer
  frf : ∀ b ∈ frs outer, H b = none
  hok : HOk P w H s.heap
  bare : AllBare s.gens
noncomputable def CE (outer : List Env) (P : Program) (w : World) (H : Hp) (s : Shared) (Q : VK) (u : Value) (s' : Shared) : Prop :=
  ∃ v H', s'.os = s.os ∧ AllBare s'.gens ∧ Un (frs outer) [] H H' s.heap s'.heap ∧ HOk P w H' s'.heap ∧ RelV v u ∧ Q v H'
noncomputable def CR (CX : CXT) (outer : List Env) (P : Program) (w : World) (H : Hp) (s : Shared) (Q : VK) (E : XK) (r : Result) (s' : Shared) : Prop :=
  match r with
  | .ok (.ret u) => CE outer P w H s Q u s'
  | .ok _ => False
  | .error e => CX outer H s E e s'
structure FnOk (P : Program) (w : World) (K : PySem.W.Frag) (mg : Str → Option Value) (base : Heap) (CX : CXT) (k : Nat) (f : Addr) (fd : FuncData) (ps : List Str) (sp : Sp) : Prop where
  len : ∀ vs H Q E, sp vs H Q E → vs.length = ps.length
  run : ∀ (A : Around) (outer : List Env) (s : Shared) (H : Hp) (args : Args) (us : List Value) (vs : List V) (Q : VK) (E : XK), Room k A → Env0 P w K mg base A outer s H → BindsTo s fd args (ps.zip us) → Vals vs us → sp vs H Q E →
    codeAny (model P w) A (.call (.ref f) args) (CR CX outer P w H s Q E) s
theorem FnOk.imp {P : Program} {w : World} {K : PySem.W.Frag} {mg : Str → Option Value} {base : Heap} {CX : CXT} {k : Nat} {f : Addr} {fd : FuncData} {ps : List Str} {sp sp' : Sp} (F : FnOk P w K mg base CX k f fd ps sp)
    (h : ∀ vs H Q E, sp' vs H Q E → sp vs H Q E) : FnOk P w K mg base CX k f fd ps sp' :=
  ⟨fun vs H Q E q => F.len vs H Q E (h _ _ _ _ q), fun A outer s H args us vs Q E hr he hb hv hs => F.run A outer s H args us vs Q E hr he hb hv (h _ _ _ _ hs)⟩
section
variable {X : Cx} {pins : List (Addr × Obj)} {σ : St} {H : Hp} {s s' : Shared}
theorem Inv.env0 (I : Inv X pins σ H s) : Env0 X.prog X.w X.K X.mg X.base X.A X.stack s H :=
  ⟨I.ok.frames, I.ok.mod, I.bs, Nat.le_trans I.ok.bsz I.sz, I.stack, I.stkFree, I.hok, I.bare⟩
theorem Inv.after {Q : VK} {u : Value} (I : Inv X pins σ H s) (h : CE X.stack X.prog X.w H s Q u s') : EP X pins σ Q u s' := by
  obtain ⟨v, H', os, bare, un, hok, r, q⟩ := h
  obtain ⟨hh, g, d, t, os'⟩ := s'
  obtain rfl : os' = s.os := os
  exact ⟨v, H', I.call (h' := hh) (g' := g) (d' := d) (t' := t) (ch := []) un hok bare (fun b z => absurd z (by simp)), r, q⟩
end
noncomputable def tCall (sp : Sp) (dvs : List V) (E : XK) (t : TA) : TE := fun σ H Q => t σ H fun vs H1 => sp (vs ++ dvs) H1 Q E
noncomputable def Binds (K : PySem.W.Frag) (fd : FuncData) (ps : List Str) (ds : List Value) : Prop :=
  ∀ (s : Shared) (us : List Value), K.In s.heap → (us ++ ds).length = ps.length → BindsTo s fd ⟨us, []⟩ (ps.zip (us ++ ds))
theorem Binds.all {K : PySem.W.Frag} {fd : FuncData} {ps : List Str} (h : ∀ us : List Value, us.length = ps.length → bindArgs fd ⟨us, []⟩ = pure (ps.zip us)) : Binds K fd ps [] := fun s us _ hl => by
  rw [List.append_nil] at hl ⊢
  exact .of_eq (h us hl)
noncomputable def Passes (CX : CXT) (X : Cx) (E : XK) : Prop := ∀ (pins : List (Addr × Obj)) (σ : St) (H : Hp) (s : Shared) (e : Value) (s' : Shared), Inv X pins σ H s → CX X.stack H s E e s' → X.xe e s'
section
variable {X : Cx} {CX : CXT} {k : Nat} {f C : Addr} {fd : FuncData} {ps : List Str} {sp : Sp} {dvs : List V} {ds : List Value} {E : XK} {x m : Str} {p pos apos : Pos} {e o : Expr} {es : List Expr} {ta : TE} {t : TA}
theorem run_fn {pins : List (Addr × Obj)} {σ : St} {H : Hp} {s : Shared} {Q : VK} {us : List Value} {vs : List V} (F : FnOk X.prog X.w X.K X.mg X.base CX k f fd ps sp) (hr : Room k X.A) (hb : Binds X.K fd ps ds) (hd : Vals dvs ds) (hx : Passes CX X E)
    (I : Inv X pins σ H s) (r : Vals vs us) (h : sp (vs ++ dvs) H Q E) : wpAny (model X.prog X.w) X.A (call (.ref f) us) (EP X pins σ Q) X.xe s := by
  have r2 : Vals (vs ++ dvs) (us ++ ds) := r.append hd
  have hl : (us ++ ds).length = ps.length := by rw [← r2.length]; exact F.len _ _ _ _ h
  refine wpAny_call (codeAny_mono (F.run X.A X.stack s H ⟨us, []⟩ (us ++ ds) (vs ++ dvs) Q E hr I.env0 (hb s us I.kIn hl) r2 h) fun r s' hq => ?_)
  cases r with
  | error e => exact hx pins σ H s e s' I hq
  | ok fl =>
    cases fl with
    | ret u => exact I.after hq
    | next => exact False.elim hq
    | brk => exact False.elim hq
    | cont => exact False.elim hq
theorem pe_call (F : FnOk X.prog X.w X.K X.mg X.base CX k f fd ps sp) (hr : Room k X.A) (hg : Gl X x) (hm : X.mg x = some (.ref f)) (hk : PySem.W.keepIn X.K (.ref f) = true) (hb : Binds X.K fd ps ds) (hd : Vals dvs ds) (hx : Passes CX X E)
    (ha : PA X (e :: es) t) (hdb : (x == ("__debug__" : Str)) = false := by decide) (he : starEach (e :: es) X.env = (false, eval e X.env) :: starEach es X.env := by rfl) (hpl : (backTo pos (starEach es X.env)).any (·.1) = false := by rfl) :
    PE X (.Call (.Name x p) (e :: es) [] pos) (tCall sp dvs E t) := by
  intro pins s σ H Q I h
  refine wpAny_Call_Name_kw (ld_glob I hg hm ?_ hdb)
  refine PySem.W.callWith_K (h₀ := X.base) I.ok.mod.kin hk (thn (ha pos pins s σ H _ I h) fun us s1 ⟨vs, H1, I1, r, q⟩ => ⟨I1.kIn, ?_⟩) he hpl
  exact run_fn F hr hb hd hx I1 r q
structure Mk (K : PySem.W.Frag) (C f : Addr) : Prop where
  makes : PySem.W.makesIn K C = true
  init : PySem.W.findIn K (.ref C) "__init__" = some (some (.ref f))
  fn : PySem.W.isFn K (.ref f) = true
  kp : PySem.W.keepIn K (.ref C) = true
end
section
variable {X : Cx} {CX : CXT} {k : Nat} {f C : Addr} {fd : FuncData} {ps ks : List Str} {sp : Sp} {E : XK} {x m : Str} {p pos apos kpos : Pos} {e o : Expr} {es : List Expr} {kws : List Keyword} {te ta : TE} {t tk : TA} {nm : Option Str}
structure KBinds (K : PySem.W.Frag) (fd : FuncData) (ps ks : List Str) (g : List Value → List Value → List Value) (gV : List V → List V → List V) : Prop where
  to : ∀ (s : Shared) (us ws : List Value), K.In s.heap → (g us ws).length = ps.length → BindsTo s fd ⟨us, ks.zip ws⟩ (ps.zip (g us ws))
  rel : ∀ {vs : List V} {us : List Value} {zs : List V} {ws : List Value}, Vals vs us → Vals zs ws → Vals (gV vs zs) (g us ws)
variable {g : List Value → List Value → List Value} {gV : List V → List V → List V}
end
structure FnScope (N P : List Str) (sc : Scope) : Prop where
  kind : sc.kind = .function
  co : sc.isCoroutine = false
  gen : sc.isGenerator = false
  nd : N.Nodup
  pre : N.take P.length = P
  par : ∀ x ∈ P, sc.names.lookup x = some .local ∨ sc.names.lookup x = some .cell
  nofree : ∀ y ∈ sc.names, y.2 ≠ .free
theorem bindL_out {kindOf : Str → Option NameKind} {x : Str} : ∀ {binds : List (Str × Value)} {m : Str → Option Value}, (∀ v, (x, v) ∉ binds) → bindL kindOf binds m x = m x
  | [], _, _ => rfl
  | (n, v) :: r, m, h => by
    unfold bindL
    rw [bindL_out fun w hw => h w (List.mem_cons_of_mem _ hw)]
    split
    · have : x ≠ n := by rintro rfl; exact h v List.mem_cons_self
      simp [this]
    · rfl
theorem bindC_out {kindOf : Str → Option NameKind} {x : Str} : ∀ {binds : List (Str × Value)} {m : Str → Option Value}, (∀ v, (x, v) ∉ binds) → bindC kindOf binds m x = m x
  | [], _, _ => rfl
  | (n, v) :: r, m, h => by
    unfold bindC
    rw [bindC_out fun w hw => h w (List.mem_cons_of_mem _ hw)]
    split
    · rfl
    · have : x ≠ n := by rintro rfl; exact h v List.mem_cons_self
      simp [this]
theorem bindL_get {kindOf : Str → Option NameKind} {x : Str} {v : Value} : ∀ {P : List Str} {vs : List Value} {i : Nat} {m : Str → Option Value}, P.Nodup → P[i]? = some x → vs[i]? = some v → kindOf x = some .local →
    bindL kindOf (P.zip vs) m x = some v
  | [], _, _, _, _, h, _, _ => by simp at h
  | _ :: _, [], _, _, _, _, h, _ => by simp at h
  | p :: P, w :: vs, 0, m, nd, h1, h2, hk => by
    simp at h1 h2; subst h1; subst h2
    show bindL kindOf ((p, w) :: P.zip vs) m p = _
    unfold bindL
    rw [bindL_out fun v hv => (List.nodup_cons.mp nd).1 (List.of_mem_zip hv).1, if_pos hk]
    simp
  | p :: P, w :: vs, i + 1, m, nd, h1, h2, hk => by
    show bindL kindOf ((p, w) :: P.zip vs) m x = _
    unfold bindL
    exact bindL_get (i := i) (List.nodup_cons.mp nd).2 (by simpa using h1) (by simpa using h2) hk
theorem bindC_get {kindOf : Str → Option NameKind} {x : Str} {v : Value} : ∀ {P : List Str} {vs : List Value} {i : Nat} {m : Str → Option Value}, P.Nodup → P[i]? = some x → vs[i]? = some v → kindOf x ≠ some .local →
    bindC kindOf (P.zip vs) m x = some v
  | [], _, _, _, _, h, _, _ => by simp at h
  | _ :: _, [], _, _, _, _, h, _ => by simp at h
  | p :: P, w :: vs, 0, m, nd, h1, h2, hk => by
    simp at h1 h2; subst h1; subst h2
    show bindC kindOf ((p, w) :: P.zip vs) m p = _
    unfold bindC
    rw [bindC_out fun v hv => (List.nodup_cons.mp nd).1 (List.of_mem_zip hv).1, if_neg hk]
    simp
  | p :: P, w :: vs, i + 1, m, nd, h1, h2, hk => by
    show bindC kindOf ((p, w) :: P.zip vs) m x = _
    unfold bindC
    exact bindC_get (i := i) (List.nodup_cons.mp nd).2 (by simpa using h1) (by simpa using h2) hk
noncomputable def start (N : List Str) (vs : List V) : St := vs.map some ++ List.replicate (N.length - vs.length) none
noncomputable def cxOf (CX : CXT) (P : Program) (w : World) (K : PySem.W.Frag) (mg : Str → Option Value) (base : Heap) (N : List Str) (qual : Str) (scope : Scope) (f : Addr) (cd : Value) (A : Around) (outer : List Env) (s : Shared) (H : Hp) (E : XK) : Cx where
  prog := P
  w := w
  K := K
  mg := mg
  base := base
  A := A.deeper (envOfC qual scope s.heap.objs.size f cd)
  N := N
  s₀ := s
  H₀ := H
  env := envOfC qual scope s.heap.objs.size f cd
  outer := outer
  stack := envOfC qual scope s.heap.objs.size f cd :: outer
  ex := []
  calm := true
  fn := fun _ => true
  pn := []
  xe := fun e s' => wpAny (model P w) (A.deeper (envOfC qual scope s.heap.objs.size f cd)) (leaving (envOfC qual scope s.heap.objs.size f cd) e) (fun _ s'' => CX outer H s E e s'') (fun e' s'' => CX outer H s E e' s'') s'
theorem cell_has {sc : Scope} {n : Nat} {x : Str} (h : sc.names.lookup x = some .cell) : ∃ c, (cellsFrom n sc.names []).lookup x = some c := by
  have q := PySem.W.cellsFrom_some sc.names n [] (.inl h)
  exact Option.isSome_iff_exists.mp q
theorem inv_start {CX : CXT} {P : Program} {w : World} {K : PySem.W.Frag} {mg : Str → Option Value} {base : Heap} {N ps : List Str} {qual : Str} {scope : Scope} {f : Addr} {cd : Value} {A : Around} {outer : List Env} {s s1 : Shared} {H : Hp} {E : XK} {us : List Value} {vs : List V}
    (S : FnScope N ps scope) (hd : A.handled = none) (e0 : Env0 P w K mg base A outer s H) (hl : vs.length = ps.length) (r : Vals vs us)
    (x : InCallC s s.heap.objs.size (bindL (envOfC qual scope s.heap.objs.size f cd).kindOf (ps.zip us) fun _ => none) (cellsFrom (s.heap.objs.size + 1) scope.names []) (bindC (envOfC qual scope s.heap.objs.size f cd).kindOf (ps.zip us) fun _ => none) s1) :
    Inv (cxOf CX P w K mg base N qual scope f cd A outer s H E) [] (start N vs) H s1 := by
  have hpl : ps.length ≤ N.length := by have := congrArg List.length S.pre; rw [List.length_take] at this; omega
  obtain ⟨h1, tk, rfl, hk⟩ := x.done
  have noA : ∀ b : Addr, b ∉ (cxOf CX P w K mg base N qual scope f cd A outer s H E).ex := fun b z => absurd (show b ∈ ([] : List Addr) from z) (by simp)
  refine ⟨⟨e0.mod, S.kind, rfl, rfl, Nat.le_refl _, fun y z c h1 h2 => ?_, fun y hy => ?_, fun y c _ h => ?_, fun _ => hd, Around.frames_deeper e0.frames, .inr ⟨rfl, rfl⟩, fun b z => absurd z (noA b), e0.bs, e0.bsz, fun b _ _ => noA b, fun b z => absurd z (noA b), e0.funs, e0.frf⟩,
    rfl, e0.bare, Un.kept hk, ⟨_, x.toInCall.ns, fun i y v h1 h2 h3 => ?_⟩, fun y c h => ⟨_, x.cell y c h⟩, e0.hok.fresh (Nat.le_refl _), fun y c h => ?_, fun p hp => absurd (show p ∈ ([] : List (Addr × Obj)) from hp) (by simp), e0.hok.kept hk, ?_⟩
  · exact name_of_addr x.apart (PySem.mem_of_lookup h1) (PySem.mem_of_lookup h2)
  · have hy : scope.names.lookup y = some .cell ∨ scope.names.lookup y = some .free := hy
    rcases hy with hy | hy
    · exact cell_has hy
    · exact absurd rfl (S.nofree _ (PySem.mem_of_lookup hy))
  · exact Nat.le_of_lt (x.above y c (PySem.mem_of_lookup h))
  · have hi : i < vs.length := by
      unfold start at h2
      by_cases hi : i < vs.length
      · exact hi
      · rw [List.getElem?_append_right (by simpa using hi)] at h2
        rw [List.getElem?_replicate] at h2
        split at h2 <;> cases h2
    have ha : vs[i]? = some v := by
      unfold start at h2
      rw [List.getElem?_append_left (by simpa using hi), List.getElem?_map] at h2
      cases e : vs[i]? with
      | none => rw [e] at h2; cases h2
      | some a => rw [e] at h2; cases h2; rfl
    obtain ⟨u, hu, rv⟩ := r.get ha
    have hp : ps[i]? = some y := by
      rw [← S.pre, List.getElem?_take_of_lt (by omega)]; exact h1
    have ndP : ps.Nodup := by rw [← S.pre]; exact S.nd.sublist (List.take_sublist _ _)
    refine ⟨u, rv, ?_⟩
    rcases S.par y (List.mem_of_getElem? hp) with k | k
    · exact .inl ⟨k, bindL_get ndP hp hu k⟩
    · obtain ⟨c, e⟩ := cell_has (n := s.heap.objs.size + 1) k
      refine .inr ⟨.inl k, c, e, ?_⟩
      have q := x.cell y c e
      rw [bindC_get ndP hp hu (by show scope.names.lookup y ≠ _; rw [k]; decide)] at q
      exact q
  · exact e0.hok.fresh (Nat.le_of_lt (x.above y c (PySem.mem_of_lookup h)))
  · unfold start
    show _ = N.length
    rw [List.length_append, List.length_map, List.length_replicate]
    omega
theorem fn_of {CX : CXT} {P : Program} {w : World} {K : PySem.W.Frag} {mg : Str → Option Value} {base : Heap} {k : Nat} {f : Addr} {name qual : Str} {params : Arguments} {body : List Stmt} {scope : Scope} {dV kV doc pm cdv ct oc : Value} {an od : Option Addr}
    {osl : Array (Option Value)} {N ps : List Str} {sp : Sp} (lk : K.lookup f = some ⟨oc, od, .func (PySem.W.fnOf name qual params body scope dV kV doc pm an cdv ct), osl⟩) (hcd : PySem.W.codeIn K cdv qual = true) (S : FnScope N ps scope)
    (len : ∀ vs H Q E, sp vs H Q E → vs.length = ps.length)
    (hbody : ∀ (A : Around) (outer : List Env) (s : Shared) (H : Hp) (vs : List V) (Q : VK) (E : XK), Room k (A.deeper (envOfC qual scope s.heap.objs.size f cdv)) → sp vs H Q E →
      ∃ t, PSs (cxOf CX P w K mg base N qual scope f cdv A outer s H E) body t ∧ t { nx := fun _ H' => Q .non H', rt := Q } (start N vs) H) :
    FnOk P w K mg base CX (k + 1) f (PySem.W.fnOf name qual params body scope dV kV doc pm an cdv ct) ps sp := by
  refine ⟨len, fun A outer s H args us vs Q E hr e0 hb r hsp => ?_⟩
  have hl := len _ _ _ _ hsp
  have KX : K.In s.heap := e0.mod.kin.keeps fun b o e => (e0.bs b o e).1
  have lim : s.heap.NoLimit := e0.mod.nolimit.keeps fun b o e => (e0.bs b o e).1
  have hkind : ∀ y ∈ ps.zip us, scope.names.lookup y.1 = some .local ∨ (scope.names.lookup y.1 = some .cell ∧ ((cellsFrom (s.heap.objs.size + 1) scope.names []).lookup y.1).isSome = true) := fun ⟨n, v⟩ hy => by
    rcases S.par n (List.of_mem_zip hy).1 with q | q
    · exact .inl q
    · exact .inr ⟨q, PySem.W.cellsFrom_some _ _ _ (.inl q)⟩
  refine codeAny_call_function hr.depth (KX _ _ lk) rfl S.co S.gen rfl (PySem.W.codeRec_of KX hcd) (hb _ _ _ _ ?_)
  refine wpAny_newFunctionEnv_cells S.kind hkind fun env he s1 x => ?_
  subst he
  refine ⟨lim.keeps x.toInCall.keep, codeAny_func ?_⟩
  obtain ⟨t, ht, hq⟩ := hbody A outer s H vs Q E (hr.deeper _) hsp
  have I : Inv (cxOf CX P w K mg base N qual scope f cdv A outer s H E) [] (start N vs) H s1 := inv_start S hr.hd e0 hl r x
  refine wpAny_mono (ht [] s1 (start N vs) H _ I hq) (fun fl s' hs => ?_) fun e s' hs => hs
  have fin : ∀ {σ' : St} {H' : Hp} {v : V} {u : Value}, Inv (cxOf CX P w K mg base N qual scope f cdv A outer s H E) [] σ' H' s' → RelV v u → Q v H' → CE outer P w H s Q u s' :=
    fun {σ' H' v u} J rv q => ⟨v, H', J.os, J.bare, J.base, J.hok, rv, q⟩
  cases fl with
  | ret u =>
    obtain ⟨v, σ', H', J, rv, q⟩ := hs
    exact fin J rv q
  | next =>
    obtain ⟨σ', H', J, q⟩ := hs
    exact fin (v := V.non) (u := Value.none) J rfl q
  | brk =>
    obtain ⟨_, _, _, q⟩ := hs
    exact False.elim q
  | cont =>
    obtain ⟨_, _, _, q⟩ := hs
    exact False.elim q
end L2
namespace L2
open PySem PySem.Spec PyProof.Rows
section
variable {X : Cx} {x : Str} {p pos : Pos} {e : Expr} {es : List Expr} {t : TA} {id T : String} {r : List V → Hp → VK → Prop}
noncomputable def tCB (r : List V → Hp → VK → Prop) (t : TA) : TE := fun σ H Q => t σ H fun vs H1 => r vs H1 Q
theorem pe_callB (hc : CallR X (.builtin id) r) (hg : Gl X x) (hm : X.mg x = none) (hv : bootBuiltins x = some (.builtin id)) (ha : PA X (e :: es) t) (hn : x ≠ "__name__" := by decide) (hdb : (x == ("__debug__" : Str)) = false := by decide)
    (he : starEach (e :: es) X.env = (false, eval e X.env) :: starEach es X.env := by rfl) (hpl : (backTo pos (starEach es X.env)).any (·.1) = false := by rfl) : PE X (.Call (.Name x p) (e :: es) [] pos) (tCB r t) := by
  intro pins s σ H Q I h
  refine wpAny_Call_Name_kw (ld_blt I hg hm hv ?_ hn hdb)
  exact PyProof.Rows.callWith_builtin1 (thn (ha pos pins s σ H _ I h) fun us s1 ⟨vs, H1, I1, r1, q1⟩ => hc pins s1 σ H1 vs us Q I1 r1 q1) he hpl
theorem pe_callTy (hc : CallR X (.type T) r) (hg : Gl X x) (hm : X.mg x = none) (hv : bootBuiltins x = some (.type T)) (ha : PA X (e :: es) t) (hn : x ≠ "__name__" := by decide) (hdb : (x == ("__debug__" : Str)) = false := by decide)
    (he : starEach (e :: es) X.env = (false, eval e X.env) :: starEach es X.env := by rfl) (hpl : (backTo pos (starEach es X.env)).any (·.1) = false := by rfl) : PE X (.Call (.Name x p) (e :: es) [] pos) (tCB r t) := by
  intro pins s σ H Q I h
  refine wpAny_Call_Name_kw (ld_blt I hg hm hv ?_ hn hdb)
  exact PyProof.Rows.callWith_type1 (thn (ha pos pins s σ H _ I h) fun us s1 ⟨vs, H1, I1, r1, q1⟩ => hc pins s1 σ H1 vs us Q I1 r1 q1) he hpl
end
end L2
namespace HT
open PySem PyProof.Rows
section
open PySem.SeqAt
open PySem.AutoSeq1 (wpAny_loadPart')
open PySem.MeetsSeq PySem.MeetsSeq2 PySem.MeetsSeq3
end
section
variable {prog : Program} {w : World} {A : Around} {E : Value → Shared → Prop} {s : Shared}
noncomputable def sIx (n d : Nat) : Option Int → Nat
  | none => d
  | some v => if v < 0 then (v + (n : Int)).toNat else min v.toNat n
theorem sIx_none (n d : Nat) : sIx n d none = d := rfl
theorem sIx_nat (n d k : Nat) : sIx n d (some (k : Int)) = min k n := by
  show (if (k : Int) < 0 then ((k : Int) + (n : Int)).toNat else min (k : Int).toNat n) = min k n
  rw [if_neg (by omega), Int.toNat_natCast]
end
end HT
namespace L2
open PySem PySem.Spec PyProof.Rows
noncomputable abbrev TO := St → Hp → (Option Int → Hp → Prop) → Prop
noncomputable def PO (X : Cx) (e : Option Expr) (t : TO) : Prop :=
  ∀ (pins : List (Addr × Obj)) (s : Shared) (σ : St) (H : Hp) (Q : Option Int → Hp → Prop), Inv X pins σ H s → t σ H Q →
    wpAny (model X.prog X.w) X.A (evalPart e X.env) (fun u s' => ∃ o H', Inv X pins σ H' s' ∧ IsPart u o ∧ Q o H') X.xe s
noncomputable def tNoPart : TO := fun _ H Q => Q none H
noncomputable def tPart (t : TE) : TO := fun σ H Q => t σ H fun x H1 => ∃ i, x = .int i ∧ Q (some i) H1
section
variable {X : Cx} {e : Expr} {te : TE} {lo hi : Option Expr} {tl th : TO} {pos p2 : Pos}
theorem po_none : PO X none tNoPart := by
  intro pins s σ H Q I h
  rw [evalPart_none]
  exact wpAny_pure ⟨none, H, I, .none, h⟩
theorem po_some (h : PE X e te) : PO X (some e) (tPart te) := by
  intro pins s σ H Q I hw
  rw [evalPart_some]
  refine thn (h pins s σ H _ I hw) fun u s1 ⟨x, H1, I1, r1, q1⟩ => ?_
  obtain ⟨i, rfl, q⟩ := q1
  obtain ⟨t, rfl⟩ := r1
  exact ⟨some i, H1, I1, .int i t, q⟩
noncomputable def SlR (X : Cx) (r : V → Option Int → Option Int → Hp → VK → Prop) : Prop :=
  ∀ (pins : List (Addr × Obj)) (s : Shared) (σ : St) (H : Hp) (x : V) (v vl vu : Value) (lo hi : Option Int) (sl : Addr) (Q : VK), Inv X pins σ H s → RelV x v → s.heap.IsSliceOf sl vl vu .none → IsPart vl lo → IsPart vu hi → r x lo hi H Q →
    ∃ T id, typeLookup (.type T) "__getitem__" = pure (some (.builtin id)) ∧ s.TypeIs v T ∧ wpAny (model X.prog X.w) X.A (getItem v (.ref sl)) (EP X pins σ Q) X.xe s
theorem SlR.or {r r' : V → Option Int → Option Int → Hp → VK → Prop} (h : SlR X r) (h' : SlR X r') : SlR X (fun x lo hi H Q => r x lo hi H Q ∨ r' x lo hi H Q) := by
  intro pins s σ H x v vl vu lo hi sl Q I rx hs pl pu q
  rcases q with q | q
  · exact h pins s σ H x v vl vu lo hi sl Q I rx hs pl pu q
  · exact h' pins s σ H x v vl vu lo hi sl Q I rx hs pl pu q
noncomputable def tSl (r : V → Option Int → Option Int → Hp → VK → Prop) (te : TE) (tl th : TO) : TE := fun σ H Q => te σ H fun x H1 => tl σ H1 fun l H2 => th σ H2 fun u H3 => r x l u H3 Q
theorem pe_slice {r : V → Option Int → Option Int → Hp → VK → Prop} (hr : SlR X r) (he : PE X e te) (hl : PO X lo tl) (hu : PO X hi th) : PE X (.Subscript e (.Slice lo hi none p2) pos) (tSl r te tl th) := by
  intro pins s σ H Q I h
  refine Subscript_ (thn (he pins s σ H _ I h) fun v s1 ⟨x, H1, I1, r1, q1⟩ => ?_)
  refine wpAny_Slice (thn (hl pins s1 σ H1 _ I1 q1) fun vl s2 ⟨l, H2, I2, pl, q2⟩ => thn (hu pins s2 σ H2 _ I2 q2) fun vu s3 ⟨u, H3, I3, pu, q3⟩ => ?_)
  rw [evalPart_none]
  refine wpAny_pure ?_
  have I4 : Inv X pins σ H3 { s3 with heap := s3.heap.push { cls := .type "slice", data := .fields #[vl, vu, .none] } } := I3.kept (t' := s3.toks) fun b ob q => Heap.get?_push_of_some _ q
  obtain ⟨T, id, hT, ht, hg⟩ := hr pins { s3 with heap := s3.heap.push { cls := .type "slice", data := .fields #[vl, vu, .none] } } σ H3 x v vl vu l u s3.heap.objs.size Q I4 r1 (Heap.IsSliceOf.new ..) pl pu q3
  show wpAny (model X.prog X.w) X.A (subscriptTail e (.Slice lo hi none p2) v (.ref s3.heap.objs.size)) (EP X pins σ Q) X.xe { s3 with heap := s3.heap.push { cls := .type "slice", data := .fields #[vl, vu, .none] } }
  exact tail_any (ops := [.ref s3.heap.objs.size, v]) ht hT hg (by with_unfolding_all rfl)
noncomputable def cutV (xs : List V) (lo hi : Option Int) : List V := (xs.drop (HT.sIx xs.length 0 lo)).take (HT.sIx xs.length xs.length hi - HT.sIx xs.length 0 lo)
theorem cutV_length (xs : List V) (lo hi : Option Int) : (cutV xs lo hi).length ≤ xs.length := by
  unfold cutV
  rw [List.length_take, List.length_drop]
  omega
end
end L2
namespace L2
open PySem PySem.Spec PyProof.Rows
noncomputable def ixN (n : Nat) (i : Int) : Option Nat := if 0 ≤ i then (if i < n then some i.toNat else none) else if -(n : Int) ≤ i then some (i + n).toNat else none
noncomputable def atI {α : Type} (xs : List α) (i : Int) : Option α := (ixN xs.length i).bind fun j => xs[j]?
theorem ixN_seq {n : Nat} {i : Int} {j : Nat} (h : ixN n i = some j) : seqIndex? i n = some j ∧ j < n ∧ -(n : Int) ≤ i ∧ i < n := by
  unfold ixN at h
  by_cases h0 : 0 ≤ i
  · rw [if_pos h0] at h
    by_cases h1 : i < n
    · rw [if_pos h1] at h
      have e : i.toNat = j := Option.some.inj h
      exact ⟨by rw [seqIndex_of h0 h1, e], by omega, by omega, h1⟩
    · rw [if_neg h1] at h; cases h
  · rw [if_neg h0] at h
    by_cases h1 : -(n : Int) ≤ i
    · rw [if_pos h1] at h
      have e : (i + n).toNat = j := Option.some.inj h
      exact ⟨by rw [seqIndex_neg (by omega) h1, e], by omega, h1, by omega⟩
    · rw [if_neg h1] at h; cases h
theorem atI_get {α : Type} {xs : List α} {i : Int} {v : α} (h : atI xs i = some v) : ∃ j, seqIndex? i xs.length = some j ∧ xs[j]? = some v ∧ j < xs.length ∧ -(xs.length : Int) ≤ i ∧ i < xs.length := by
  unfold atI at h
  cases e : ixN xs.length i with
  | none => rw [e] at h; cases h
  | some j =>
    rw [e] at h
    obtain ⟨h1, h2, h3, h4⟩ := ixN_seq e
    exact ⟨j, h1, h, h2, h3, h4⟩
theorem atI_nat {α : Type} {xs : List α} {j : Nat} {v : α} (h : xs[j]? = some v) : atI xs (j : Int) = some v := by
  have hj : j < xs.length := (List.getElem?_eq_some_iff.mp h).1
  have e : ixN xs.length (j : Int) = some j := by
    unfold ixN
    rw [if_pos (by omega), if_pos (by omega)]; simp
  unfold atI; rw [e]; exact h
noncomputable def PlainIx (b : Expr) : Prop := ∀ o i, subscripted b false o i = operate [o, i] (getItem o i)
noncomputable def IxR (X : Cx) (r : R2) : Prop :=
  ∀ (value slice : Expr) (pins : List (Addr × Obj)) (s : Shared) (σ : St) (H : Hp) (x y : V) (v u : Value) (Q : VK), Inv X pins σ H s → RelV x v → RelV y u → r x y H Q →
    subscripted slice false v u = operate [v, u] (getItem v u) → wpAny (model X.prog X.w) X.A (subscriptTail value slice v u) (EP X pins σ Q) X.xe s
noncomputable def MtR (X : Cx) (id : String) (r : V → List V → Hp → VK → Prop) : Prop :=
  ∀ (pins : List (Addr × Obj)) (s : Shared) (σ : St) (H : Hp) (x : V) (xs : List V) (v : Value) (us : List Value) (Q : VK), Inv X pins σ H s → RelV x v → Vals xs us → r x xs H Q →
    wpAny (model X.prog X.w) X.A (call (.builtin id) (v :: us)) (EP X pins σ Q) X.xe s
section
variable {X : Cx} {a b : Expr} {ta tb : TE} {pos : Pos}
theorem IxR.or {r r' : R2} (h : IxR X r) (h' : IxR X r') : IxR X (fun x y H Q => r x y H Q ∨ r' x y H Q) := by
  intro value slice pins s σ H x y v u Q I rx ry q hs
  rcases q with q | q
  · exact h value slice pins s σ H x y v u Q I rx ry q hs
  · exact h' value slice pins s σ H x y v u Q I rx ry q hs
theorem MtR.or {id : String} {r r' : V → List V → Hp → VK → Prop} (h : MtR X id r) (h' : MtR X id r') : MtR X id (fun x xs H Q => r x xs H Q ∨ r' x xs H Q) := by
  intro pins s σ H x xs v us Q I rx rs q
  rcases q with q | q
  · exact h pins s σ H x xs v us Q I rx rs q
  · exact h' pins s σ H x xs v us Q I rx rs q
theorem pe_ix {r : R2} (hr : IxR X r) (ha : PE X a ta) (hb : PE X b tb) (hs : PlainIx b) : PE X (.Subscript a b pos) (tOp r ta tb) := by
  intro pins s σ H Q I h
  exact Subscript_ (binT ha hb I h fun v u s2 x y H2 I2 rx ry q => hr a b pins s2 σ H2 x y v u Q I2 rx ry q (hs _ _))
noncomputable def rIxL (K : PySem.W.Frag) : R2 := fun x y H Q => ∃ p xs i v, x = .ref p ∧ y = .int i ∧ SqL K H p xs ∧ atI xs i = some v ∧ Q v H
noncomputable def rIxT (K : PySem.W.Frag) : R2 := fun x y H Q => ∃ p xs i v, x = .ref p ∧ y = .int i ∧ SqT K H p xs ∧ atI xs i = some v ∧ Q v H
theorem ix_list : IxR X (rIxL X.K) := by
  intro value slice pins s σ H x y v u Q I rx ry h hs
  obtain ⟨p, xs, i, z, rfl, rfl, hq, he, q⟩ := h
  cases rx
  obtain ⟨t, rfl⟩ := ry
  obtain ⟨its, r, pl, hz⟩ := I.list hq
  obtain ⟨j, h1, h2, h3, h4, h5⟩ := atI_get he
  obtain ⟨w, ew, rw'⟩ := r.get h2
  have hl := r.length
  have hn := line63
  have fin : EP X pins σ Q w s := ⟨z, H, I, rw', q⟩
  by_cases h0 : 0 ≤ i
  · have hj : i.toNat = j := by
      rw [seqIndex_of h0 h5] at h1
      exact Option.some.inj h1
    exact item_listR pl.isList h0 (by omega) (by rw [hj]; simpa using ew) fin hs
  · have hj : (i + (its.toArray.size : Int)).toNat = j := by
      rw [seqIndex_neg (by omega) h4] at h1
      rw [List.size_toArray, ← hl]
      exact Option.some.inj h1
    exact subscriptTail_builtinR (x := w) pl.isList.typeIs slot_list_getitem.lookup
      (wpAny_getItem_list_neg (Q := fun r s' => r = w ∧ EP X pins σ Q r s') pl.isList (by omega) (by rw [List.size_toArray] <;> omega) (by omega) (by rw [hj]; simpa using ew) ⟨rfl, fin⟩) hs
theorem ix_tup : IxR X (rIxT X.K) := by
  intro value slice pins s σ H x y v u Q I rx ry h hs
  obtain ⟨p, xs, i, z, rfl, rfl, hq, he, q⟩ := h
  cases rx
  obtain ⟨t, rfl⟩ := ry
  obtain ⟨its, r, pl, hz⟩ := I.tuple hq
  obtain ⟨j, h1, h2, h3, h4, h5⟩ := atI_get he
  obtain ⟨w, ew, rw'⟩ := r.get h2
  have hl := r.length
  have hn := line63
  have fin : EP X pins σ Q w s := ⟨z, H, I, rw', q⟩
  exact subscriptTail_builtinR (x := w) pl.typeIs slot_tuple_getitem.lookup
    (getItem_tuple (j := j) (Q := fun r s' => r = w ∧ EP X pins σ Q r s') pl (by omega) (by omega) (by rw [List.size_toArray, ← hl]; exact h1) (by simpa using ew) ⟨rfl, fin⟩) hs
theorem mapSeq_set (its : List Value) (n j : Nat) (u : Value) : Obj.mapSeq (·.setIfInBounds j u) { cls := .type "list", data := .seq its.toArray n } = { cls := .type "list", data := .seq (its.set j u).toArray n } := by
  simp [Obj.mapSeq]
theorem Inv.lst {pins : List (Addr × Obj)} {σ : St} {H : Hp} {s : Shared} {p : Addr} {xs : List V} (I : Inv X pins σ H s) (h : H p = some (.lst xs)) :
    ∃ (its : List Value) (n : Nat), Vals xs its ∧ s.heap.get? p = some { cls := .type "list", data := .seq its.toArray n } ∧ xs.length ≤ sizeLine := by
  obtain ⟨z, its, n, r, e⟩ := I.hok p _ h
  exact ⟨its, n, r, e, z⟩
theorem Inv.lstUpd {pins : List (Addr × Obj)} {σ : St} {H : Hp} {s : Shared} {p : Addr} {xs ys : List V} {its its' : List Value} {n n' : Nat} {f : Obj → Obj} (I : Inv X pins σ H s) (h : H p = some (.lst xs))
    (ho : s.heap.get? p = some { cls := .type "list", data := .seq its.toArray n }) (hf : f { cls := .type "list", data := .seq its.toArray n } = { cls := .type "list", data := .seq its'.toArray n' }) (r : Vals ys its') (hz : ys.length ≤ sizeLine) (t : Nat) :
    Inv X pins σ (upd H p (.lst ys)) { s with heap := s.heap.update p f, toks := t } := by
  have e : (s.heap.update p f).get? p = some { cls := .type "list", data := .seq its'.toArray n' } := by
    rw [Heap.get?_update_self f ho (by rw [hf] <;> rfl), hf]
  refine I.write (x := p) (e := p) (by rw [h]; trivial) (.inl rfl) (fun b u hb q => (Heap.get?_update_other _ _ (Ne.symm hb)).trans q) ⟨_, e⟩ ?_
  exact ⟨hz, its', n', r, e⟩
noncomputable def rSetL : V → V → V → Hp → (Hp → Prop) → Prop := fun o i v H Q => ∃ p xs k j, o = .ref p ∧ i = .int k ∧ H p = some (.lst xs) ∧ ixN xs.length k = some j ∧ Q (upd H p (.lst (xs.set j v)))
theorem set_list : PSet X rSetL := by
  intro pins s σ H o i v ov iv u Q I ro ri rv h
  obtain ⟨p, xs, k, j, rfl, rfl, hp, hj, q⟩ := h
  cases ro
  obtain ⟨t, rfl⟩ := ri
  obtain ⟨its, n, r, ho, hz⟩ := I.lst hp
  obtain ⟨h1, h2, h3, h4⟩ := ixN_seq hj
  have hl := r.length
  have hn := line63
  have I' : Inv X pins σ (upd H p (.lst (xs.set j v))) { s with heap := s.heap.update p (Obj.mapSeq (·.setIfInBounds j u)) } :=
    I.lstUpd hp ho (mapSeq_set its n j u) (r.set rv j) (by rw [List.length_set]; exact hz) s.toks
  by_cases h0 : 0 ≤ k
  · have hk : k.toNat = j := by
      rw [seqIndex_of h0 h4] at h1
      exact Option.some.inj h1
    exact PySem.W.ki_setAt ho h0 (by omega) (by rw [List.size_toArray, ← hl]; exact h4) (by rw [hk]; exact ⟨_, I', q⟩)
  · have hk : (k + (its.toArray.size : Int)).toNat = j := by
      rw [seqIndex_neg (by omega) h3] at h1
      rw [List.size_toArray, ← hl]
      exact Option.some.inj h1
    exact PySem.W.ki_setBack ho (by omega) (by rw [List.size_toArray, ← hl]; exact h3) (by omega) (by rw [hk]; exact ⟨_, I', q⟩)
theorem slice_bounds (lo hi : Option Int) (n : Nat) : (sliceBounds lo hi none n).1 = ((HT.sIx n 0 lo : Nat) : Int) ∧ (sliceBounds lo hi none n).2.1 = ((HT.sIx n n hi : Nat) : Int) ∧ (sliceBounds lo hi none n).2.2 = 1 := by
  refine ⟨?_, ?_, rfl⟩
  · cases lo with
    | none => simp [sliceBounds, HT.sIx]
    | some i =>
      simp only [sliceBounds, HT.sIx, Option.getD_none, show (1 : Int) > 0 by decide, if_true]
      by_cases h : i < 0
      · simp only [h, if_true] <;> omega
      · simp only [h, if_false] <;> omega
  · cases hi with
    | none => simp [sliceBounds, HT.sIx]
    | some i =>
      simp only [sliceBounds, HT.sIx, Option.getD_none, show (1 : Int) > 0 by decide, if_true]
      by_cases h : i < 0
      · simp only [h, if_true] <;> omega
      · simp only [h, if_false] <;> omega
theorem slicePick_cut (its : List Value) (lo hi : Option Int) : slicePick its.toArray lo hi none = ((its.drop (HT.sIx its.length 0 lo)).take (HT.sIx its.length its.length hi - HT.sIx its.length 0 lo)).toArray := by
  obtain ⟨h1, h2, h3⟩ := slice_bounds lo hi its.toArray.size
  unfold slicePick
  rw [h1, h2, h3]
  simp only [sliceRange_one, pick_run, List.size_toArray] <;> rfl
noncomputable def rSlL (K : PySem.W.Frag) : V → Option Int → Option Int → Hp → VK → Prop := fun x lo hi H Q => ∃ a xs, x = .ref a ∧ SqL K H a xs ∧ ∀ p, H p = none → Q (.ref p) (upd H p (.lst (cutV xs lo hi)))
theorem sl_list : SlR X (rSlL X.K) := by
  intro pins s σ H x v vl vu lo hi sl Q I rx hs pl pu h
  obtain ⟨a, xs, rfl, hx, q⟩ := h
  cases rx
  obtain ⟨its, r, ht, hz⟩ := I.list hx
  have hlen := r.length
  refine ⟨"list", _, slot_list_getitem.lookup, ht.isList.typeIs, ?_⟩
  refine wpAny_getItem_list_slice ht.isList hs pl pu .none (by simp) ?_ (by rw [List.size_toArray] <;> omega)
  rw [slicePick_cut, ← hlen]
  refine ⟨.ref s.heap.objs.size, _, I.laid (t' := s.toks) (o := .lst (cutV xs lo hi)) (fun b ob q => Heap.get?_push_of_some _ q) (Nat.le_refl _) ?_, rfl, q _ (I.hok.fresh (Nat.le_refl _))⟩
  exact ⟨Nat.le_trans (cutV_length xs lo hi) hz, _, 0, (r.drop (HT.sIx xs.length 0 lo)).take (HT.sIx xs.length xs.length hi - HT.sIx xs.length 0 lo), Heap.get?_push_size _ rfl⟩
theorem call_len_seq : CallR X (.builtin "len") (fun xs H Q => ∃ p ys, xs = [.ref p] ∧ (SqL X.K H p ys ∨ SqT X.K H p ys) ∧ Q (.int ys.length) H) := by
  intro pins s σ H xs us Q I r h
  obtain ⟨p, ys, rfl, hq, q⟩ := h
  obtain ⟨u, rfl, rx⟩ := vals1 r
  cases rx
  have hn := line63
  rcases hq with hq | hq
  · obtain ⟨its, r', pl, hz⟩ := I.list hq
    have hlen := r'.length
    exact Calls.call_len_list pl.isList (by simp only [List.size_toArray] <;> omega) ⟨.int ys.length, H, I.tok _, ⟨s.toks + 1, by rw [List.size_toArray, hlen]⟩, q⟩
  · obtain ⟨its, r', pl, hz⟩ := I.tuple hq
    have hlen := r'.length
    exact len_tuple pl (by simp only [List.size_toArray] <;> omega) ⟨.int ys.length, H, I.tok _, ⟨s.toks + 1, by rw [List.size_toArray, hlen]⟩, q⟩
theorem CallR.or {f : Value} {r r' : List V → Hp → VK → Prop} (h : CallR X f r) (h' : CallR X f r') : CallR X f (fun xs H Q => r xs H Q ∨ r' xs H Q) := by
  intro pins s σ H xs us Q I rs q
  rcases q with q | q
  · exact h pins s σ H xs us Q I rs q
  · exact h' pins s σ H xs us Q I rs q
theorem call_list_of : CallR X (.type "list") (fun xs H Q => ∃ p ys, xs = [.ref p] ∧ (SqL X.K H p ys ∨ SqT X.K H p ys) ∧ ∀ l, H l = none → Q (.ref l) (upd H l (.lst ys))) := by
  intro pins s σ H xs us Q I r h
  obtain ⟨p, ys, rfl, hq, q⟩ := h
  obtain ⟨u, rfl, rx⟩ := vals1 r
  cases rx
  have fin : ∀ (its : List Value), Vals ys its → ys.length ≤ sizeLine → ∀ (h' : Heap) (c' : Nat), (∀ b o', s.heap.get? b = some o' → h'.get? b = some o') →
      h'.get? s.heap.objs.size = some { cls := .type "list", dict := none, data := .seq its.toArray c', slots := #[] } → EP X pins σ Q (.ref s.heap.objs.size) { s with heap := h' } := fun its r' hz h' c' kp e =>
    ⟨.ref s.heap.objs.size, _, I.laid (t' := s.toks) kp (Nat.le_refl _) (show ObjOk X.prog X.w _ h' _ (.lst ys) from ⟨hz, its, c', r', e⟩), rfl, q _ (I.hok.fresh (Nat.le_refl _))⟩
  rcases hq with hq | hq
  · obtain ⟨its, r', pl, hz⟩ := I.list hq
    have hlen := r'.length
    obtain ⟨o, ho, hc, n, hd⟩ := pl.isList
    exact call_list_seq p (.inl rfl) ho hc hd (fun h' c' kp e => fin its r' hz h' c' kp e) (by simp only [List.size_toArray] <;> omega)
  · obtain ⟨its, r', pl, hz⟩ := I.tuple hq
    have hlen := r'.length
    obtain ⟨o, ho, hc, n, hd⟩ := pl
    exact call_list_seq p (.inr rfl) ho hc hd (fun h' c' kp e => fin its r' hz h' c' kp e) (by simp only [List.size_toArray] <;> omega)
noncomputable def tyV (K : PySem.W.Frag) (T : String) (x : V) (H : Hp) : Prop := match x with
  | .str _ => T = "str"
  | .int _ => T = "int"
  | .ref p => (T = "list" ∧ ∃ xs, SqL K H p xs) ∨ (T = "tuple" ∧ ∃ o, K.lookup p = some o ∧ o.cls = .type "tuple" ∧ o.dict = none) ∨
      (T = "dict" ∧ ((∃ kvs, H p = some (.dK kvs)) ∨ ∃ kvs, H p = some (.dT kvs))) ∨ (T = "set" ∧ ∃ S n, H p = some (.set S n))
  | _ => False
theorem tyV_is {pins : List (Addr × Obj)} {σ : St} {H : Hp} {s : Shared} {T : String} {x : V} {v : Value} (I : Inv X pins σ H s) (r : RelV x v) (ty : tyV X.K T x H) :
    s.TypeIs v T ∧ ∀ a, v = .ref a → ∃ ob, s.heap.get? a = some ob ∧ ob.dict = none := by
  cases x with
  | str z =>
    obtain ⟨t, rfl⟩ := r
    cases (show T = "str" from ty)
    exact ⟨typeIs_str s z t, fun _ e => nomatch e⟩
  | int i =>
    obtain ⟨t, rfl⟩ := r
    cases (show T = "int" from ty)
    exact ⟨typeIs_int s i t, fun _ e => nomatch e⟩
  | ref p =>
    cases r
    rcases ty with ⟨rfl, xs, hq⟩ | ⟨rfl, o, hk, hc, hd⟩ | ⟨rfl, hk⟩ | ⟨rfl, S, n, hk⟩
    · obtain ⟨its, _, pl, _⟩ := I.list hq
      refine ⟨pl.isList.typeIs, fun a e => ?_⟩
      cases e
      obtain ⟨o, n, e, c, hd, _⟩ := pl
      exact ⟨o, e, hd⟩
    · refine ⟨⟨o, I.kIn p o hk, hc⟩, fun a e => ?_⟩
      cases e
      exact ⟨o, I.kIn _ o hk, hd⟩
    · have z : ∃ o, s.heap.get? p = some o ∧ o.ExactDict := by
        rcases hk with ⟨kvs, hk⟩ | ⟨kvs, hk⟩
        · obtain ⟨_, _, _, _, o, _, _, e, ex, _⟩ := I.hok p _ hk
          exact ⟨o, e, ex⟩
        · obtain ⟨_, _, _, _, o, _, _, e, ex, _⟩ := I.hok p _ hk
          exact ⟨o, e, ex⟩
      obtain ⟨o, e, ex⟩ := z
      refine ⟨⟨o, e, ex.1⟩, fun a e2 => ?_⟩
      cases e2
      exact ⟨o, e, ex.2.1⟩
    · obtain ⟨o, _, _, _, e, ex, _⟩ := I.hok p _ hk
      refine ⟨⟨o, e, ex.1⟩, fun a e2 => ?_⟩
      cases e2
      exact ⟨o, e, ex.2.1⟩
  | _ => exact False.elim ty
noncomputable def tBM0 (K : PySem.W.Frag) (T : String) (r : V → List V → Hp → VK → Prop) (to : TE) : TE := fun σ H Q => to σ H fun x H1 => tyV K T x H1 ∧ r x [] H1 Q
noncomputable def tBM (K : PySem.W.Frag) (T : String) (r : V → List V → Hp → VK → Prop) (to : TE) (t : TA) : TE := fun σ H Q => to σ H fun x H1 => tyV K T x H1 ∧ t σ H1 fun xs H2 => r x xs H2 Q
variable {o e : Expr} {es : List Expr} {to : TE} {t : TA} {name : Str} {apos cpos : Pos} {T id : String} {r : V → List V → Hp → VK → Prop}
theorem pe_bm0 (pa : PlainAttrs T) (slot : Slot T name id) (hty : typeOf (.builtin id) = pure (.type "method_descriptor")) (hm : MtR X id r) (ho : PE X o to)
    (hbase : attributeBase o name X.env (eval o X.env) = eval o X.env := by rfl) (hline : (apos.endLine == cpos.line) = true := by rfl) : PE X (.Call (.Attribute o name apos) [] [] cpos) (tBM0 X.K T r to) := by
  intro pins s σ H Q I h
  refine wpAny_Call_method0_late hbase hline (thn (ho pins s σ H _ I h) fun v s1 ⟨x, H1, I1, r1, ty, q1⟩ => ?_)
  obtain ⟨h1, h2⟩ := tyV_is I1 r1 ty
  exact ⟨T, id, pa, slot, hty, h1, h2, Calls.callWith_builtin rfl (PySem.evalArgs_none (hm pins s1 σ H1 x [] v [] Q I1 r1 .nil q1))⟩
theorem pe_bm (pa : PlainAttrs T) (slot : Slot T name id) (hty : typeOf (.builtin id) = pure (.type "method_descriptor")) (hm : MtR X id r) (ho : PE X o to) (ha : PA X (e :: es) t)
    (hbase : attributeBase o name X.env (eval o X.env) = eval o X.env := by rfl)
    (hfew : ((backTo cpos (starEach (e :: es) X.env)).all (fun x => !x.1) && (backToKw cpos (keywordEach [] X.env)).all (fun x => x.1.isSome)
      && decide ((e :: es).length + ([] : List Keyword).length + (if ([] : List Keyword).isEmpty then 0 else 1) < 30)) = true := by rfl)
    (hline : (apos.endLine == cpos.line) = true := by rfl) (hs : starEach (e :: es) X.env = (false, eval e X.env) :: starEach es X.env := by rfl) (hplain : (backTo cpos (starEach es X.env)).any (·.1) = false := by rfl) :
    PE X (.Call (.Attribute o name apos) (e :: es) [] cpos) (tBM X.K T r to t) := by
  intro pins s σ H Q I h
  refine wpAny_Call_method_late hbase hfew hline rfl (thn (ho pins s σ H _ I h) fun v s1 ⟨x, H1, I1, r1, ty, q1⟩ => ?_)
  obtain ⟨h1, h2⟩ := tyV_is I1 r1 ty
  refine ⟨T, id, pa, slot, hty, h1, h2, ?_⟩
  have hA := ha cpos pins s1 σ H1 _ I1 q1
  rw [hs] at hA ⊢
  refine Calls.callWith_builtin (by show (false || (backTo cpos (starEach es X.env)).any (·.1)) = false; rw [hplain] <;> rfl) (Calls.evalArgs_plain ?_)
  exact thn hA fun us s2 ⟨vs, H2, I2, r2, q2⟩ => hm pins s2 σ H2 x vs v us Q I2 r1 r2 q2
end
end L2
namespace L2
open PySem PySem.Spec PyProof.Rows
noncomputable def MtM (X : Cx) (id : String) (r : V → List V → Hp → VK → Prop) : Prop :=
  ∀ (pins : List (Addr × Obj)) (s : Shared) (σ : St) (H : Hp) (x : V) (xs : List V) (v : Value) (us : List Value) (Q : VK), Inv X pins σ H s → RelV x v → Vals xs us → r x xs H Q →
    wpAny (model X.prog X.w) X.A (call (.builtin id) (v :: us)) (EP X pins σ Q) X.xe s
theorem Vals.one : ∀ {x : V} {us : List Value}, Vals [x] us → ∃ u, us = [u] ∧ RelV x u
  | _, _, .cons r .nil => ⟨_, rfl, r⟩
theorem Vals.two : ∀ {x y : V} {us : List Value}, Vals [x, y] us → ∃ u v, us = [u, v] ∧ RelV x u ∧ RelV y v
  | _, _, _, .cons r (.cons q .nil) => ⟨_, _, rfl, r, q⟩
theorem Vals.zero : ∀ {us : List Value}, Vals [] us → us = []
  | _, .nil => rfl
theorem Vals.dropLast {xs : List V} {us : List Value} (h : Vals xs us) : Vals xs.dropLast us.dropLast := by
  induction h with
  | nil => exact .nil
  | cons r t ih =>
    cases t with
    | nil => exact .nil
    | cons q t' => exact .cons r ih
theorem Vals.rep {xs : List V} {us : List Value} (h : Vals xs us) : ∀ k : Nat, Vals (List.replicate k xs).flatten (List.replicate k us).flatten
  | 0 => .nil
  | k + 1 => by
    rw [List.replicate_succ, List.replicate_succ, List.flatten_cons, List.flatten_cons]
    exact Vals.append h (Vals.rep h k)
theorem erase_last {α : Type} (l : List α) : l.eraseIdx (l.length - 1) = l.dropLast := by
  induction l with
  | nil => rfl
  | cons a r ih =>
    cases r with
    | nil => rfl
    | cons b r =>
      have e : (a :: b :: r).length - 1 = ((b :: r).length - 1) + 1 := by
        have h1 : (a :: b :: r).length = r.length + 2 := rfl
        have h2 : (b :: r).length = r.length + 1 := rfl
        omega
      rw [e, List.eraseIdx_cons_succ, ih]
      all_goals rfl
theorem foldl_rep (its : List Value) : ∀ (k : Nat) (acc : List Value),
    List.foldl (fun x1 x2 => x1 ++ x2) acc.toArray (List.replicate k its.toArray) = (acc ++ (List.replicate k its).flatten).toArray
  | 0, acc => by simp
  | k + 1, acc => by
    have e : acc.toArray ++ its.toArray = (acc ++ its).toArray := by simp
    have e2 : (acc ++ its) ++ (List.replicate k its).flatten = acc ++ (List.replicate (k + 1) its).flatten := by
      rw [List.replicate_succ, List.flatten_cons, List.append_assoc]
    rw [← e2, ← foldl_rep its k (acc ++ its), ← e, List.replicate_succ, List.foldl_cons]
section
variable {X : Cx} {pins : List (Addr × Obj)} {σ : St} {H : Hp} {s : Shared} {l b : Addr} {xs ys zs : List V}
theorem Inv.lset {its its' : List Value} {n : Nat} {f : Array Value → Array Value} {t' : Nat} (I : Inv X pins σ H s) (hH : H l = some (.lst xs))
    (e : s.heap.get? l = some { cls := .type "list", data := .seq its.toArray n }) (hf : f its.toArray = its'.toArray) (hv : Vals ys its') (hz : ys.length ≤ sizeLine) :
    Inv X pins σ (upd H l (.lst ys)) { s with heap := s.heap.update l (Obj.mapSeq f), toks := t' } := by
  have q := PySem.IsL.update e f
  rw [hf] at q
  refine I.write (x := l) (e := l) (by rw [hH]; exact trivial) (.inl rfl) (fun b' u hb hu => (Heap.get?_update_other s.heap (Obj.mapSeq f) (Ne.symm hb)).trans hu) ⟨_, q⟩ ?_
  exact ⟨hz, its', _, hv, q⟩
theorem Inv.lnew {its : List Value} {t' : Nat} (I : Inv X pins σ H s) (hv : Vals ys its) (hz : ys.length ≤ sizeLine) :
    Inv X pins σ (upd H s.heap.objs.size (.lst ys)) { s with heap := s.heap.push { cls := .type "list", data := .seq its.toArray }, toks := t' } :=
  I.laid (fun _ _ q => Heap.get?_push_of_some _ q) (Nat.le_refl _) ⟨hz, its, 0, hv, Heap.get?_push_size _ rfl⟩
theorem Inv.fresh (I : Inv X pins σ H s) : H s.heap.objs.size = none := I.hok.fresh (Nat.le_refl _)
theorem Inv.lstM (I : Inv X pins σ H s) (hH : H l = some (.lst xs)) : xs.length ≤ sizeLine ∧ ∃ (its : List Value) (n : Nat), Vals xs its ∧ xs.length = its.length ∧ s.heap.get? l = some { cls := .type "list", data := .seq its.toArray n } := by
  obtain ⟨z, its, n, r, e⟩ := I.hok l _ hH
  exact ⟨z, its, n, r, r.length, e⟩
theorem notLongL {n : Nat} (h : n ≤ sizeLine) : Builtin.List.listTooLong n = false := by
  unfold Builtin.List.listTooLong
  exact decide_eq_false (by omega)
end
section
variable {X : Cx}
noncomputable def rAppend : V → List V → Hp → VK → Prop := fun x vs H Q => ∃ l xs y, x = .ref l ∧ vs = [y] ∧ H l = some (.lst xs) ∧ xs.length < sizeLine ∧ Q .non (upd H l (.lst (xs ++ [y])))
theorem mt_append : MtM X "list.append" rAppend := by
  intro pins s σ H x vs v us Q I rx rv h
  obtain ⟨l, xs, y, rfl, rfl, hH, hz, q⟩ := h
  cases rx
  obtain ⟨u, rfl, ru⟩ := rv.one
  obtain ⟨z, its, n, r, hl, e⟩ := I.lstM hH
  refine call_meets F.slot_list_append ⟨_, e, rfl⟩ F.entry_list_append (F.args_list_append_2 _ _) (PySem.list_append l its.toArray n u (by rw [List.size_toArray]; omega)) ⟨e, ?_⟩
  refine ⟨.non, _, I.lset (its' := its ++ [u]) hH e (by simp) (r.append (.cons ru .nil)) ?_, rfl, q⟩
  rw [List.length_append, List.length_singleton]
  omega
noncomputable def rPop : V → List V → Hp → VK → Prop := fun x vs H Q => ∃ l xs y, x = .ref l ∧ vs = [] ∧ H l = some (.lst xs) ∧ xs[xs.length - 1]? = some y ∧ Q y (upd H l (.lst xs.dropLast))
theorem mt_pop : MtM X "list.pop" rPop := by
  intro pins s σ H x vs v us Q I rx rv h
  obtain ⟨l, xs, y, rfl, rfl, hH, hy, q⟩ := h
  cases rx
  have hus := rv.zero
  subst hus
  obtain ⟨z, its, n, r, hl, e⟩ := I.lstM hH
  obtain ⟨u, hu, ru⟩ := r.get hy
  have hy' : its.toArray[its.toArray.size - 1]? = some u := by
    show its.toArray[its.length - 1]? = some u
    rw [← Array.getElem?_toList, ← hl]
    exact hu
  refine call_meets F.slot_list_pop ⟨_, e, rfl⟩ F.entry_list_pop (F.args_list_pop_1 _) (MeetsSeq.list_pop_last l its.toArray n u hy' (by rw [List.size_toArray]; omega)) ⟨e, ?_⟩
  refine ⟨y, _, I.lset (its' := its.dropLast) hH e ?_ r.dropLast ?_, ru, q⟩
  · show its.toArray.eraseIdxIfInBounds (its.toArray.size - 1) = its.dropLast.toArray
    rw [List.size_toArray, List.eraseIdxIfInBounds_toArray, erase_last]
  · rw [List.length_dropLast]
    omega
noncomputable def rRep : R2 := fun x y H Q => ∃ l k xs, x = .ref l ∧ y = .int k ∧ H l = some (.lst xs) ∧ -(2 ^ 63) ≤ k ∧ k < 2 ^ 63 ∧ xs.length * k.toNat ≤ sizeLine ∧
  ∀ p, H p = none → Q (.ref p) (upd H p (.lst (List.replicate k.toNat xs).flatten))
theorem len_rep {α : Type} (xs : List α) (k : Nat) : (List.replicate k xs).flatten.length = k * xs.length := by
  induction k with
  | zero => simp
  | succ k ih => rw [List.replicate_succ, List.flatten_cons, List.length_append, ih, Nat.succ_mul, Nat.add_comm]
theorem op_rep : OpR X (binaryOp .Mult) rRep := by
  intro pins s σ H x y v u Q I rx ry h
  obtain ⟨l, k, xs, rfl, rfl, hH, h1, h2, hz, q⟩ := h
  cases rx
  obtain ⟨t, rfl⟩ := ry
  obtain ⟨z, its, n, r, hl, e⟩ := I.lstM hH
  have hlen : its.toArray.size * k.toNat ≤ sizeLine := by rw [List.size_toArray, ← hl]; exact hz
  have hcap : ¬ its.toArray.size * k.toNat > (2 ^ 63 - 1) / 8 := by
    have : (sizeLine : Nat) ≤ (2 ^ 63 - 1) / 8 := by decide
    omega
  have hfit : ¬ (!Builtin.List.listFitsIndex k) = true := by
    rw [fitsIndex_both h1 h2]
    exact Bool.false_ne_true
  have hlong : ¬ Builtin.List.listTooLong (its.toArray.size * k.toNat) = true := by
    rw [notLongL hlen]
    exact Bool.false_ne_true
  have hnew : List.foldl (fun x1 x2 => x1 ++ x2) #[] (List.replicate (if its.toArray.isEmpty = true then 0 else k.toNat) its.toArray) = (List.replicate k.toNat its).flatten.toArray := by
    have f0 : ∀ m : Nat, List.foldl (fun x1 x2 => x1 ++ x2) #[] (List.replicate m its.toArray) = (List.replicate m its).flatten.toArray := fun m => by
      have := foldl_rep its m []
      rw [List.nil_append] at this
      exact this
    rw [f0]
    cases its with
    | nil => simp
    | cons a r' => rw [if_neg (by simp)]
  refine wpAny_binaryOp_repeat_ref (T := "list") (U := "int") (by decide) ⟨_, e, rfl⟩ (fun s' => typeIs_int s' k t) noFill_list_mul F.fills_int_mul F.slot_int_rmul repeat_list F.slot_int_index.lookup
    (call_meets F.slot_int_rmul (typeIs_int s k t) F.entry_int_rmul (F.args_int_rmul_2 _ _) (int___rmul___int_list k t l its.toArray n)
      ⟨e, rfl, ⟨_, e, rfl⟩, call_meets F.slot_list_mul ⟨_, e, rfl⟩ F.entry_list_mul (F.args_list_mul_2 _ _) (AutoListH.list___mul___list_int_3 l its.toArray n k t hfit hcap hlong) ⟨e, ?_⟩⟩)
  rw [hnew]
  exact ⟨.ref _, _, I.lnew (t' := s.toks) (r.rep k.toNat) (by rw [len_rep, Nat.mul_comm]; exact hz), rfl, q _ I.fresh⟩
end
section
variable {prog : Program} {w : World} {A : Around} {E : Value → Shared → Prop} {s : Shared}
set_option maxRecDepth 100000 in
end
section
variable {X : Cx}
end
end L2
namespace Att
open PySem PySem.W PySem.Calls PyProof.Rows
theorem ints_of_wellAll {P : Params} {h : Heap} : ∀ (ns : List Int) (vs : List Value), WellAll P h vs (ns.map WData.int) → IntsAre vs ns := by
  intro ns
  induction ns with
  | nil =>
    intro vs w
    rw [List.map_nil] at w
    cases w
    exact .nil
  | cons n ns ih =>
    intro vs w
    rw [List.map_cons] at w
    cases w with
    | cons a b =>
      cases a
      exact .cons _ _ (ih _ b)
theorem script_of {l : OpenLaw} {n : Nat} (hn : l.most = some n) {P : Params} {h : Heap} {args : List WData} {vals : List Value}
    (hpre : l.row.toRowW.claim.pre args = true) (hwl : WellAll P h vals args) :
    ∃ a vs ns, vals = [Value.ref a] ∧ args = [WData.list (ns.map WData.int)] ∧ h.get? a = some { cls := .type "list", data := .seq vs.toArray } ∧ IntsAre vs ns ∧ ns.length ≤ n := by
  have hsh : WShape.hasAll [] args [.list .int] = true := (pre_splitW hpre).1
  have hc : l.pre.holds [] { args := args } = true := (pre_splitW hpre).2
  obtain ⟨d, r, rfl, h1, h2⟩ := hasAllW_cons hsh
  obtain rfl := hasAllW_nil h2
  obtain ⟨xs, rfl, h3⟩ := hasW_list h1
  obtain ⟨ns, rfl⟩ := items_int h3
  have hlen : ns.length ≤ n := by
    unfold OpenLaw.pre at hc
    have h4 : (WTm.not (.lt (.lit (.int (n : Int))) (.len (.arg 0)))).holds [] { args := [.list (ns.map .int)] } = true := by
      have h4 := (holds_andW hc).1
      rw [hn] at h4
      exact h4
    have h5 := condW_of h4 (w_not (w_lt w_lit (w_len_list (w_arg rfl))))
    rw [List.length_map] at h5
    refine Nat.le_of_not_lt fun q => ?_
    have q' : (n : Int) < ((ns.length : Nat) : Int) := by omega
    first
      | (rw [decide_eq_true q'] at h5; exact absurd h5 (by decide))
      | (simp at h5; omega)
  cases hwl with
  | cons w1 w2 =>
    cases w2
    cases w1 with
    | list ho hall => exact ⟨_, _, ns, rfl, rfl, ho, ints_of_wellAll ns _ hall, hlen⟩
theorem post_true (l : OpenLaw) (args : List WData) : l.row.toRowW.claim.post args (.bool true) args = true :=
  postW_of (r := l.row.toRowW) (X := (true == true))
    (show WShape.has [] (.bool true) .bool = true by first | rfl | decide | simp [WShape.has, WShape.arms, WShape.armsAll])
    (show (WTm.eq .res (.lit (.bool true))).value [] { args := args, res := some (.bool true), after := args } = some (.bool (true == true)) from w_eq_bool (w_res rfl) w_lit) rfl
theorem attach_call {l : OpenLaw} {n : Nat} {q : Program} {loose : List Str} {XP : (Str → Option Value) → Heap → Prop} {YP : World → Heap → Prop} {d : DefRec}
    (hn : l.most = some n) (hdf : d.params.defaults = [])
    (call : ∀ (w : World) (s₀ s₁ : Shared) (mg mb : Str → Option Value) (fa : Addr) (o : Obj) (pm cd doc : Value) (a : Addr) (vs : List Value) (ns : List Int),
      Ground q loose [] XP w s₀ mg mb s₁.heap → YP w s₁.heap →
      s₁.heap.get? fa = some o → o.data = .func (docDef d.name d.params d.body d.scope pm cd doc) → s₁.heap.CodeRec cd d.name → mg d.name = some (.ref fa) →
      s₁.heap.get? a = some { cls := .type "list", data := .seq vs.toArray } → IntsAre vs ns → ns.length ≤ n → s₁.gens = #[] →
      codeAny (model l.prog w) callerA (.call (.ref fa) ⟨[.ref a], []⟩) (fun r s' => r = .ok (.ret (.bool true)) ∧ OldK s₁.heap s'.heap ∧ s'.os = s₁.os ∧ AllBare s'.gens) s₁) :
    WalkO q loose XP YP l.row.toRowW d [] (fun f vs => PySem.call f vs) := by
  intro w s₀ s₁ mg mb G Y fa o pm cd doc dV kV ho hd hcd hD hmg hg args vals as hpre hlay hrd hwl hlo
  obtain rfl : dV = .none := Dflts.none hD hdf
  obtain rfl : kV = .none := Dflts.noKw hD
  obtain ⟨a, vs, ns, rfl, rfl, hobj, hints, hlen⟩ := script_of hn hpre hwl
  refine enter_call (codeAny_mono (call w s₀ s₁ mg mb fa o pm cd doc a vs ns G Y ho (fd_plain hd) hcd hmg hobj hints hlen hg) fun r s' hq => ?_)
  obtain ⟨rfl, h2, h3, h4⟩ := hq
  exact ⟨.inl ⟨.bool true, .bool true, [], rfl, fun _ => rfl, .bool true, post_true l _, fun _ => ⟨List.Pairwise.nil, fun _ hm => (nomatch hm)⟩⟩, h2, h3, h4⟩
section
variable {prog : Program} {w : World} {A : Around} {E : Value → Shared → Prop} {s : Shared} {K : Frag}
noncomputable def ledger (h : Heap) (L d : Addr) : List (Addr × Obj) := (List.range h.objs.size).filterMap fun a => if a = L ∨ a = d then none else (h.get? a).map fun o => (a, o)
end
end Att
namespace L2
open PySem PySem.Spec PyProof.Rows
theorem vals_ints : ∀ {vs : List Value} {ns : List Int}, IntsAre vs ns → Vals (ns.map V.int) vs
  | _, _, .nil => .nil
  | _, _, .cons n t h => .cons ⟨t, rfl⟩ (vals_ints h)
noncomputable def Only (H : Hp) : Prop := ∀ b, H b = none ∨ ∃ o xs, H b = some (.frz o (.lst xs))
theorem law_call {P : Program} {w : World} {K : PySem.W.Frag} {mg mb : Str → Option Value} {CX : CXT} {k : Nat} {fa a : Addr} {fd : FuncData} {x : Str} {sp : Sp} {s₁ : Shared} {vs : List Value} {ns : List Int}
    (KX : K.In s₁.heap) (hns : s₁.heap.Ns mainGlobals mg) (hb : s₁.heap.Ns builtinsNs mb) (hbb : ∀ x : Str, x ≠ "__name__" → mb x = bootBuiltins x) (hlim : s₁.heap.NoLimit) (hg : s₁.gens = #[])
    (ha : s₁.heap.get? a = some { cls := .type "list", data := .seq vs.toArray }) (hi : IntsAre vs ns) (hl : ns.length ≤ sizeLine) (hr : Room k callerA)
    (F : ∀ base : Heap, K.In base → base.Ns mainGlobals mg → FnOk P w K mg base CX k fa fd [x] sp) (hbind : ∀ (s : Shared) (u : Value), BindsTo s fd ⟨[u], []⟩ [(x, u)])
    (hsp : ∀ H : Hp, Only H → SqL K H a (ns.map V.int) → sp [.ref a] H (fun v _ => v = .bl true) fun _ _ _ => False)
    (hCX : ∀ H e s', CX [] H s₁ (fun _ _ _ => False) e s' → False) :
    codeAny (model P w) callerA (.call (.ref fa) ⟨[.ref a], []⟩) (fun r s' => r = .ok (.ret (.bool true)) ∧ OldK s₁.heap s'.heap ∧ s'.os = s₁.os ∧ AllBare s'.gens) s₁ := by
  have rv := vals_ints hi
  have lenV := hi.length
  have core : ∀ H : Hp, Only H → SqL K H a (ns.map V.int) → HOk P w H s₁.heap → (∀ b, H b ≠ none → b = a) → (H a ≠ none → K.lookup a = none) →
      codeAny (model P w) callerA (.call (.ref fa) ⟨[.ref a], []⟩) (fun r s' => r = .ok (.ret (.bool true)) ∧ OldK s₁.heap s'.heap ∧ s'.os = s₁.os ∧ AllBare s'.gens) s₁ := by
    intro H hO hS hok hA hK
    have base_of : ∀ {b : Addr} {o : Obj}, s₁.heap.get? b = some o → H b = none → (hidT s₁.heap H).get? b = some o := fun e n => hidT_get e n
    have noA : ∀ {b : Addr} {o : Obj} {es : Array DictEntry} {ep : Nat}, s₁.heap.get? b = some o → o.data = .dict es ep → H b = none := fun {b o es ep} e d => by
      cases q : H b with
      | none => rfl
      | some u =>
        have e' : b = a := hA b (by rw [q]; simp)
        subst e'
        rw [ha] at e; cases e
        have d' : Data.seq vs.toArray _ = Data.dict es ep := d
        cases d'
    have nsK : ∀ {b : Addr} {m : Str → Option Value}, s₁.heap.Ns b m → (hidT s₁.heap H).Ns b m := fun {b m} ⟨o, es, ep, e, d, r⟩ => ⟨o, es, ep, base_of e (noA e d), d, r⟩
    have hKb : K.In (hidT s₁.heap H) := fun b o e => base_of (KX b o e) (by
      cases q : H b with
      | none => rfl
      | some u =>
        have e' : b = a := hA b (by rw [q]; simp)
        subst e'
        rw [hK (by rw [q]; simp)] at e; cases e)
    have hM : Mod K mg (hidT s₁.heap H) := ⟨hKb, nsK hns, ⟨mb, nsK hb, hbb⟩, let ⟨mc, h1, h2⟩ := hlim; ⟨mc, nsK h1, h2⟩⟩
    have e0 : Env0 P w K mg (hidT s₁.heap H) callerA [] s₁ H := ⟨rfl, hM, fun b o e => of_hidT e, Nat.le_of_eq (hidT_size _ _), trivial, fun b hb => absurd (show b ∈ ([] : List Addr) from hb) (by simp), hok, .of_eq hg⟩
    refine codeAny_mono ((F _ hKb (nsK hns)).run callerA [] s₁ H ⟨[.ref a], []⟩ [.ref a] [.ref a] _ _ hr e0 (hbind s₁ (.ref a)) (.cons rfl .nil) (hsp H hO hS)) fun r s' h => ?_
    cases r with
    | error e => exact (hCX H e s' h).elim
    | ok fl =>
      cases fl with
      | next => exact False.elim h
      | brk => exact False.elim h
      | cont => exact False.elim h
      | ret u =>
        obtain ⟨v, H', os, bare, un, hok', r', q⟩ := h
        have q' : v = .bl true := q
        subst q'
        obtain rfl : u = Value.bool true := r'
        refine ⟨rfl, OldK.of_keep fun b o e => ?_, os, bare⟩
        cases q : H b with
        | none => exact un.keep b o e q (by intro z; exact absurd (show b ∈ ([] : List Addr) from z) (by simp)) (by simp)
        | some u =>
          rcases hO b with z | ⟨ob, xs, z⟩
          · rw [q] at z; cases z
          · have z2 := un.frzs b ob _ z
            obtain ⟨e1, _⟩ := hok b _ z
            obtain ⟨e2, _⟩ := hok' b _ z2
            rw [e] at e1; cases e1
            exact e2
  cases hk : K.lookup a with
  | some o =>
    have e := KX a o hk
    rw [ha] at e
    cases e
    refine core (fun _ => none) (fun _ => .inl rfl) (.inr ⟨_, vs.toArray, _, hk, rfl, rfl, rfl, by rw [List.size_toArray, lenV]; exact hl, by simpa using rv⟩) (fun b u z => by have z' : (none : Option HO) = some u := z; cases z') (fun b z => absurd rfl z) fun z => absurd rfl z
  | none =>
    refine core (fun b => if b = a then some (.frz { cls := .type "list", data := .seq vs.toArray } (.lst (ns.map V.int))) else none) (fun b => ?_) (.inl (.inr ⟨{ cls := .type "list", data := .seq vs.toArray }, if_pos rfl⟩)) (fun b u z => ?_) (fun b z => ?_) fun _ => hk
    · by_cases hb : b = a
      · exact .inr ⟨_, _, if_pos hb⟩
      · exact .inl (if_neg hb)
    · by_cases hb : b = a
      · have z' := (if_pos hb).symm.trans z
        cases z'
        subst hb
        exact ⟨ha, by rw [List.length_map]; exact hl, vs, _, rv, ha⟩
      · have z' := (if_neg hb).symm.trans z
        cases z'
    · by_cases hb : b = a
      · exact hb
      · exact absurd (if_neg hb) z
end L2
namespace L2
open PySem PySem.Spec PyProof.Rows
noncomputable abbrev KOf {K : PySem.W.Frag} {h : Heap} (_ : K.In h) : PySem.W.Frag := K
theorem walk_of {l : PySem.W.OpenLaw} {n k : Nat} {q : Program} {loose : List Str} {XP : (Str → Option Value) → Heap → Prop} {YP : World → Heap → Prop} {d : DefRec} {K : Params → PySem.W.Frag} {CX : World → CXT} {sp : World → Sp} {x : Str}
    (hn : l.most = some n) (hn2 : n ≤ sizeLine) (hdf : d.params.defaults = []) (hr : Room k callerA)
    (hY : ∀ (w : World) (h : Heap), YP w h → (K w.params).In h)
    (F : ∀ (w : World) (mg : Str → Option Value) (fa : Addr) (h : Heap), (K w.params).In h → h.Ns mainGlobals mg → mg d.name = some (.ref fa) →
      ∃ fd : FuncData, (∀ (s : Shared) (u : Value), BindsTo s fd ⟨[u], []⟩ [(x, u)]) ∧
        ∀ base : Heap, (K w.params).In base → base.Ns mainGlobals mg → FnOk l.prog w (K w.params) mg base (CX w) k fa fd [x] (sp w))
    (hsp : ∀ (w : World) (H : Hp) (a : Addr) (ns : List Int), ns.length ≤ n → Only H → SqL (K w.params) H a (ns.map V.int) → sp w [.ref a] H (fun v _ => v = .bl true) fun _ _ _ => False)
    (hCX : ∀ (w : World) (H : Hp) (s : Shared) (e : Value) (s' : Shared), CX w [] H s (fun _ _ _ => False) e s' → False) :
    PySem.W.WalkO q loose XP YP l.row.toRowW d [] (fun f vs => PySem.call f vs) := by
  refine Att.attach_call hn hdf fun w s₀ s₁ mg mb fa o pm cd doc a vs ns G Y ho hd hcd hmg hobj hints hlen hg => ?_
  have KX := hY w _ Y
  obtain ⟨fd, hb, hF⟩ := F w mg fa _ KX G.T.g hmg
  exact law_call KX G.T.g G.T.b G.T.builtins G.T.nolimit hg hobj hints (Nat.le_trans hlen hn2) hr hF hb (fun H hO hS => hsp w H a ns hlen hO hS) fun H e s' => hCX w H s₁ e s'
end L2
namespace L2
open PySem PySem.Spec PyProof.Rows
noncomputable def defArgs (s : Stmt) : Arguments := match s with
  | .FunctionDef _ a _ _ _ _ _ _ _ _ => a
  | _ => { posonlyargs := [], args := [], vararg := none, kwonlyargs := [], kw_defaults := [], kwarg := none, defaults := [] }
noncomputable def defBody (s : Stmt) : List Stmt := match s with
  | .FunctionDef _ _ b _ _ _ _ _ _ _ => b
  | _ => []
noncomputable def defScope (s : Stmt) : Scope := match s with
  | .FunctionDef _ _ _ _ _ _ sc _ _ _ => sc
  | _ => { kind := .function, names := [], isGenerator := false, isCoroutine := false }
noncomputable abbrev CX0 : CXT := fun _ _ _ _ _ _ => False
noncomputable abbrev E0 : XK := fun _ _ _ => False
structure Fun (K : PySem.W.Frag) (x qual : Str) (st : Stmt) (f : Addr) (fd : FuncData) : Prop where
  ex : ∃ (oc : Value) (od : Option Addr) (kV doc pm : Value) (an : Option Addr) (cdv ct : Value) (osl : Array (Option Value)),
    fd = PySem.W.fnOf x qual (defArgs st) (defBody st) (defScope st) .none kV doc pm an cdv ct ∧ K.lookup f = some ⟨oc, od, .func fd, osl⟩ ∧ PySem.W.codeIn K cdv qual = true
  kp : PySem.W.keepIn K (.ref f) = true
section
variable {P : Program} {w : World} {K : PySem.W.Frag} {mg : Str → Option Value} {base : Heap}
theorem Fun.ok {x qual : Str} {st : Stmt} {f : Addr} {fd : FuncData} {N ps : List Str} {k : Nat} {sp : Sp} (F : Fun K x qual st f fd) (S : FnScope N ps (defScope st)) (len : ∀ vs H Q E, sp vs H Q E → vs.length = ps.length)
    (hbody : ∀ (cdv : Value) (A : Around) (outer : List Env) (s : Shared) (H : Hp) (vs : List V) (Q : VK) (E : XK), Room k (A.deeper (envOfC qual (defScope st) s.heap.objs.size f cdv)) → sp vs H Q E →
      ∃ t, PSs (cxOf CX0 P w K mg base N qual (defScope st) f cdv A outer s H E).nox (defBody st) t ∧ t { nx := fun _ H' => Q .non H', rt := Q } (start N vs) H) : FnOk P w K mg base CX0 (k + 1) f fd ps sp := by
  obtain ⟨oc, od, kV, doc, pm, an, cdv, ct, osl, rfl, lk, hcd⟩ := F.ex
  refine fn_of lk hcd S len fun A outer s H vs Q E hr hsp => ?_
  obtain ⟨t, h, q⟩ := hbody cdv A outer s H vs Q E hr hsp
  exact ⟨t, h.nox, q⟩
theorem Fun.binds {x qual : Str} {st : Stmt} {f : Addr} {fd : FuncData} {ps : List Str} (F : Fun K x qual st f fd)
    (h : ∀ (kV doc pm : Value) (an : Option Addr) (cdv ct : Value) (us : List Value), us.length = ps.length → bindArgs (PySem.W.fnOf x qual (defArgs st) (defBody st) (defScope st) .none kV doc pm an cdv ct) ⟨us, []⟩ = pure (ps.zip us)) : Binds K fd ps [] := by
  obtain ⟨oc, od, kV, doc, pm, an, cdv, ct, osl, rfl, lk, hcd⟩ := F.ex
  exact .all (h kV doc pm an cdv ct)
theorem fun_mk {x qual : Str} {st : Stmt} {f : Addr} {oc : Value} {od an : Option Addr} {osl : Array (Option Value)} {kV doc pm cdv ct : Value} (l : K.lookup f = some ⟨oc, od, .func (PySem.W.fnOf x qual (defArgs st) (defBody st) (defScope st) .none kV doc pm an cdv ct), osl⟩)
    (c : PySem.W.codeIn K cdv qual = true) (k : PySem.W.keepIn K (.ref f) = true) : Fun K x qual st f (PySem.W.fnOf x qual (defArgs st) (defBody st) (defScope st) .none kV doc pm an cdv ct) := ⟨⟨oc, od, kV, doc, pm, an, cdv, ct, osl, rfl, l, c⟩, k⟩
end
theorem small1000 {n : Nat} (h : n ≤ 1000) : n < sizeLine := Nat.lt_of_le_of_lt h (by decide)
section
variable {X : Cx}
theorem pv (i : Nat) {x : Str} {pos : Pos} (hN : X.N[i]? = some x := by rfl) (hv : Vis X.env.scope x := by first | exact Or.inl rfl | exact Or.inr (Or.inl rfl) | exact Or.inr (Or.inr rfl)) (hd : (x == ("__debug__" : Str)) = false := by decide)
    (hcd : (x == ("__classdict__" : Str)) = false := by decide) : PE X (.Name x pos) (tVar i) := pe_var hN hv hd hcd
end
theorem ite2 {c A B : Prop} [Decidable c] (h1 : c → A) (h2 : ¬ c → B) : if c then A else B := by
  by_cases h : c
  · rw [if_pos h]
    exact h1 h
  · rw [if_neg h]
    exact h2 h
noncomputable def Same (H H' : Hp) : Prop := ∀ b o, H b = some o → H' b = some o
theorem Same.refl (H : Hp) : Same H H := fun _ _ h => h
theorem Same.trans {H H1 H2 : Hp} (a : Same H H1) (b : Same H1 H2) : Same H H2 := fun c o h => b c o (a c o h)
theorem Same.free {H H' : Hp} (e : Same H H') {l : Addr} (h : H' l = Option.none) : H l = Option.none := by
  cases q : H l with
  | none => rfl
  | some o =>
    rw [e l o q] at h
    cases h
theorem Same.seq {K : PySem.W.Frag} {H H' : Hp} {a : Addr} {xs : List V} (e : Same H H') (h : SqL K H a xs) : SqL K H' a xs := by
  rcases h with (h | ⟨o, h⟩) | h
  · exact .inl (.inl (e _ _ h))
  · exact .inl (.inr ⟨o, e _ _ h⟩)
  · exact .inr h
end L2
set_option maxHeartbeats 4000000
namespace Lx
open PySem PySem.Spec PyProof.Rows L2
noncomputable def ExcAt (h₀ h : Heap) (H : Hp) (x : Addr) (C : Value) : Prop :=
  ∃ oe vs, h.get? x = some oe ∧ oe.cls = C ∧ oe.data = .fields vs ∧ H x = none ∧ h₀.get? x = none ∧
    (vs[1]? = some Value.none ∨ ∃ T oT ts, vs[1]? = some (Value.ref T) ∧ T ≠ x ∧ h.get? T = some oT ∧ oT.data = .fields ts ∧ ts[3]? = some Value.none ∧ H T = none ∧ h₀.get? T = none)
theorem ExcAt.older {h₀ h₁ h : Heap} {H : Hp} {x : Addr} {C : Value} (e : ExcAt h₁ h H x C) (k : ∀ b, h₁.get? b = none → h₀.get? b = none) : ExcAt h₀ h H x C := by
  obtain ⟨oe, vs, h1, h2, h3, h4, h5, h6⟩ := e
  refine ⟨oe, vs, h1, h2, h3, h4, k _ h5, ?_⟩
  rcases h6 with h6 | ⟨T, oT, ts, g1, g2, g3, g4, g5, g6, g7⟩
  · exact .inl h6
  · exact .inr ⟨T, oT, ts, g1, g2, g3, g4, g5, g6, k _ g7⟩
theorem obj_get {P : Program} {w : World} {H : Hp} {h : Heap} {a : Addr} {o : HO} (x : ObjOk P w H h a o) : ∃ u, h.get? a = some u := by
  cases o with
  | lst xs => obtain ⟨_, _, _, _, e⟩ := x; exact ⟨_, e⟩
  | tup xs => obtain ⟨_, _, _, p⟩ := x; obtain ⟨o, h1, _⟩ := p; exact ⟨o, h1⟩
  | dK kvs => obtain ⟨_, _, _, _, o, _, _, e, _⟩ := x; exact ⟨_, e⟩
  | dT kvs => obtain ⟨_, _, _, _, o, _, _, e, _⟩ := x; exact ⟨_, e⟩
  | set S n => obtain ⟨o, _, _, _, e, _⟩ := x; exact ⟨_, e⟩
  | ins C dx fs => obtain ⟨_, _, _, e, _⟩ := x; exact ⟨_, e⟩
  | own y => exact x
  | xd fs => obtain ⟨_, ⟨_, _, _, e, _⟩, _⟩ := x; exact ⟨_, e⟩
  | rng lo hi => obtain ⟨_, _, _, e⟩ := x; exact ⟨_, e⟩
  | frz ob u => obtain ⟨e, _⟩ := x; exact ⟨_, e⟩
  | tbl ps => exact ⟨_, (show h.get? a = some _ from x)⟩
  | met f y => exact ⟨_, (show h.get? a = some _ from x)⟩
  | ext φ => obtain ⟨_, e, _⟩ := x; exact e
theorem mem_frs {env : Env} {l : List Env} {a : Addr} (h : env ∈ l) (hf : env.frame = some a) : a ∈ frs l := List.mem_filterMap.mpr ⟨env, h, hf⟩
theorem noted_any {M : Model} {A : Around} {E : Value → Shared → Prop} {s : Shared} {base h₀ : Heap} {env : Env} {outer : List Env} {L x : Addr} {C : Value} {H : Hp} {Q : Unit → Shared → Prop}
    (hfr : A.frames = some (env :: outer)) (hl : s.heap.FunFrames base (env :: outer)) (hf : env.frame = some L) (hx : ExcAt h₀ s.heap H x C)
    (h0 : ∀ b o, h₀.get? b = some o → ∃ u, s.heap.get? b = some u) (hH : ∀ b o, H b = some o → ∃ u, s.heap.get? b = some u)
    (h : ∀ h', (∀ b o, s.heap.get? b = some o → (h₀.get? b ≠ none ∨ H b ≠ none) → b ∉ frs (env :: outer) → h'.get? b = some o) →
      (∀ b o, s.heap.get? b = some o → b ∈ frs (env :: outer) → ∃ sl, h'.get? b = some { o with slots := sl }) →
      ExcAt h₀ h' H x C → Q () { s with heap := h' }) :
    wpAny M A (noteFrame (.ref x) env) (fun _ s2 => wpAny M A (setFlight (.ref x) none) Q E s2) E s := by
  obtain ⟨oe, vs, he, hc, hd, hHx, h0x, htr⟩ := hx
  have go : ∀ (tr : List Addr) (hxt : x ∈ tr) (htr : ∀ b ∈ tr, H b = none ∧ h₀.get? b = none) (h' : Heap), Heap.Left (PySem.W.hideAll s.heap (tr ++ frs (env :: outer))) (env :: outer) x C s.heap h' → Q () { s with heap := h' } := by
    intro tr hxt htr h' hL
    obtain ⟨k1, k2, k3, k4⟩ := hL
    have kept : ∀ b o, s.heap.get? b = some o → (h₀.get? b ≠ none ∨ H b ≠ none) → b ∉ frs (env :: outer) → h'.get? b = some o := fun b o e hb hn => by
      refine k1 b o (PySem.W.hideAll_get _ e fun hm => ?_)
      rcases List.mem_append.mp hm with z | z
      · obtain ⟨z1, z2⟩ := htr b z
        rcases hb with q | q
        · exact q z2
        · exact q z1
      · exact hn z
    refine h h' kept (fun b o e hb => ?_) ?_
    · obtain ⟨_, o', e', nf⟩ := hl.mem hb
      rw [e] at e'; cases e'
      exact k4 b o e nf
    · obtain ⟨oe', vs', T, oT, ts, he', hc', hd', h1', hnT, hTe, hT, hdT, h3⟩ := k3
      have hTn : H T = none ∧ h₀.get? T = none := by
        by_cases hm : T ∈ tr ++ frs (env :: outer)
        · rcases List.mem_append.mp hm with z | z
          · exact htr T z
          · obtain ⟨_, o', e', nf⟩ := k2.mem z
            rw [hT] at e'; cases e'
            exact absurd hdT (nf ts)
        · have no : s.heap.get? T = none := by
            cases q : s.heap.get? T with
            | none => rfl
            | some o =>
              rw [PySem.W.hideAll_get _ q hm] at hnT; cases hnT
          refine ⟨?_, ?_⟩
          · cases q : H T with
            | none => rfl
            | some o =>
              obtain ⟨u, hu⟩ := hH T o q
              rw [no] at hu; cases hu
          · cases q : h₀.get? T with
            | none => rfl
            | some o =>
              obtain ⟨u, hu⟩ := h0 T o q
              rw [no] at hu; cases hu
      exact ⟨oe', vs', he', hc', hd', hHx, h0x, .inr ⟨T, oT, ts, h1', hTe, hT, hdT, h3, hTn.1, hTn.2⟩⟩
  have ff : ∀ tr : List Addr, s.heap.FunFrames (PySem.W.hideAll s.heap (tr ++ frs (env :: outer))) (env :: outer) := fun tr => PySem.W.funFrames_hide hl fun env' h1 a h2 => List.mem_append_right _ (mem_frs h1 h2)
  have stays : ∀ tr : List Addr, (PySem.W.hideAll s.heap (tr ++ frs (env :: outer))).StaysIn s.heap := fun tr b o q => PySem.W.of_hideAll _ q
  have hid : ∀ (tr : List Addr) (b : Addr), b ∈ tr → (PySem.W.hideAll s.heap (tr ++ frs (env :: outer))).get? b = none := fun tr b hb => PySem.W.hideAll_none _ (List.mem_append_left _ hb)
  rcases htr with h1 | ⟨Tr, oTr, tv, h1, hTx, hTr, hdTr, h3, hHT, h0T⟩
  · unfold noteFrame
    simp only [hf]
    refine wpAny_bind (wpAny_field (s := s) he hd h1 ?_)
    rw [if_neg (by decide : ¬ ((Value.none != Value.none) = true))]
    refine wpAny_newEntry hfr (ff [x]) hf he (stays [x]) (hid [x] x (by simp)) hd (Array.getElem?_eq_some_iff.mp h1).1 fun h' hL => go [x] (by simp) (fun b hb => ?_) h' (by rw [← hc]; exact hL)
    have e : b = x := by simpa using hb
    subst e
    exact ⟨hHx, h0x⟩
  · unfold noteFrame
    simp only [hf]
    refine wpAny_bind (wpAny_field (s := s) he hd h1 ?_)
    rw [if_pos (by simp : (Value.ref Tr != Value.none) = true)]
    refine wpAny_bind (wpAny_field (s := s) hTr hdTr h3 ?_)
    rw [if_neg (by simp [rawInt] : ¬ ((Value.none == rawInt L) = true))]
    refine wpAny_bind (wpAny_setField (s := s) hTr hdTr (Array.getElem?_eq_some_iff.mp h3).1 ?_)
    have oth : ∀ b, b ≠ Tr → (s.heap.update Tr (Obj.mapFields (·.setIfInBounds 3 Value.none))).get? b = s.heap.get? b := fun b nb => Heap.get?_update_other _ _ (Ne.symm nb)
    have nT : ∀ b u, s.heap.get? b = some u → (∀ vs, u.data ≠ .fields vs) → b ≠ Tr := fun b u q nf z => by
      rw [z, hTr] at q
      cases q
      exact nf tv hdTr
    refine wpAny_newEntry hfr ((ff [x, Tr]).of_keeps fun b u q nf => ⟨u, (oth b (nT b u q nf)).trans q, rfl⟩) hf ((oth x (Ne.symm hTx)).trans he) (fun b u q => (oth b fun z => ?_).trans (stays [x, Tr] b u q)) (hid [x, Tr] x (by simp)) hd (Array.getElem?_eq_some_iff.mp h1).1
      fun h' hL => go [x, Tr] (by simp) (fun b hb => ?_) h' ⟨hL.1, hL.2.1, by rw [← hc]; exact hL.2.2.1, fun b u q nf => hL.2.2.2 b u ((oth b (nT b u q nf)).trans q) nf⟩
    · rw [z, hid [x, Tr] Tr (by simp)] at q
      cases q
    · have e : b = x ∨ b = Tr := by simpa using hb
      rcases e with e | e
      · subst e; exact ⟨hHx, h0x⟩
      · subst e; exact ⟨hHT, h0T⟩
theorem leaving_any {M : Model} {A : Around} {E : Value → Shared → Prop} {s : Shared} {base h₀ : Heap} {env : Env} {outer : List Env} {L x : Addr} {C : Value} {H : Hp} {Q : Unit → Shared → Prop}
    (hfr : A.frames = some (env :: outer)) (hl : s.heap.FunFrames base (env :: outer)) (hf : env.frame = some L) (hx : ExcAt h₀ s.heap H x C)
    (h0 : ∀ b o, h₀.get? b = some o → ∃ u, s.heap.get? b = some u) (hH : ∀ b o, H b = some o → ∃ u, s.heap.get? b = some u)
    (h : ∀ h', (∀ b o, s.heap.get? b = some o → (h₀.get? b ≠ none ∨ H b ≠ none) → b ∉ frs (env :: outer) → h'.get? b = some o) →
      (∀ b o, s.heap.get? b = some o → b ∈ frs (env :: outer) → ∃ sl, h'.get? b = some { o with slots := sl }) →
      ExcAt h₀ h' H x C → Q () { s with heap := h' }) :
    wpAny M A (leaving env (.ref x)) Q E s := wpAny_bind (noted_any hfr hl hf hx h0 hH h)
noncomputable def CXE (P : Program) (w : World) : CXT := fun outer H s E e s' =>
  ∃ (x : Addr) (C : Value) (H' : Hp), e = .ref x ∧ s'.os = s.os ∧ AllBare s'.gens ∧ Un (frs outer) [] H H' s.heap s'.heap ∧ HOk P w H' s'.heap ∧ ExcAt s.heap s'.heap H' x C ∧ E C none H'
theorem passE0 {P : Program} {w : World} {X : Cx} : Passes (CXE P w) X E0 := fun _ _ _ _ _ _ _ ⟨_, _, _, _, _, _, _, _, _, h⟩ => h.elim
section
variable {P : Program} {w : World} {K : PySem.W.Frag} {mg : Str → Option Value} {base : Heap}
theorem left_ok {X : Cx} {pins : List (Addr × Obj)} {σ : L2.St} {H' : Hp} {s' : Shared} {h' h₁ : Heap} (I' : Inv X pins σ H' s')
    (k : ∀ b o, s'.heap.get? b = some o → (h₁.get? b ≠ none ∨ H' b ≠ none) → b ∉ frs X.stack → h'.get? b = some o) : HOk X.prog X.w H' h' := fun a o e =>
  (I'.hok a o e).stay (fun b u hb q => by
    have t : H' b ≠ none := by
      rcases hb with z | z
      · rw [z, e]; simp
      · rw [z]; simp
    exact k b u q (.inr t) fun hm => t (I'.stkFree b hm)) (fun _ q => q) fun _ _ q => q
theorem pass_own {N : List Str} {qual : Str} {scope : Scope} {f : Addr} {cdv : Value} {A : Around} {outer : List Env} {s₀ : Shared} {H₀ : Hp} {E : XK} :
    Passes (CXE P w) (cxOf (CXE P w) P w K mg base N qual scope f cdv A outer s₀ H₀ E) E := by
  intro pins σ H s e s' I hc
  obtain ⟨x, C, H', rfl, ho, hg, u, hok, hx, hE⟩ := hc
  have I' : Inv (cxOf (CXE P w) P w K mg base N qual scope f cdv A outer s₀ H₀ E) pins σ H' s' := I.call' ho u hok hg (fun b z => absurd z (by simp))
  have there : ∀ b o, s₀.heap.get? b = some o → ∃ o', s.heap.get? b = some o' := fun b o e => I.base.there b o e (by intro z; exact absurd (show b ∈ ([] : List Addr) from z) (by simp))
  show wpAny (model P w) _ (leaving _ (.ref x)) _ _ s'
  refine leaving_any (h₀ := s.heap) (H := H') (C := C) (base := base) I'.ok.frames I'.stack rfl hx (fun b o e => u.there b o e (by simp)) (fun b o e => obj_get (hok b o e)) fun h' kp sl hx' => ?_
  have noex : ∀ b : Addr, b ∉ (cxOf (CXE P w) P w K mg base N qual scope f cdv A outer s₀ H₀ E).ex := fun b z => absurd (show b ∈ ([] : List Addr) from z) (by simp)
  have neL : ∀ b o, s₀.heap.get? b = some o → b ∉ frs outer → b ∉ frs (envOfC qual scope s₀.heap.objs.size f cdv :: outer) := fun b o e hb hm => by
    rcases List.mem_cons.mp (I'.stkSub b hm) with z | z
    · exact absurd (z ▸ Heap.lt_size e) (Nat.not_lt.mpr I'.ok.above)
    · exact hb z
  refine ⟨x, C, H', rfl, I'.os, I'.bare, ⟨fun b o e n hb _ => ?_, fun b o e n hb _ => ?_, fun b o e n _ => I'.base.free b o e n (noex b), fun b o e _ => ?_, I'.base.tups, I'.base.frzs, I'.base.tbls⟩, left_ok I' kp, hx'.older (fun b q => ?_), hE⟩
  · obtain ⟨o', e'⟩ := there b o e
    exact kp b o (I'.base.keep b o e n hb (noex b)) (.inl (by rw [e']; simp)) (neL b o e hb)
  · obtain ⟨sl1, e1⟩ := I'.base.slot b o e n hb (noex b)
    obtain ⟨sl2, e2⟩ := sl b _ e1 (by
      obtain ⟨env, h1, h2⟩ := List.mem_filterMap.mp hb
      exact mem_frs (List.mem_cons_of_mem _ h1) h2)
    exact ⟨sl2, e2⟩
  · obtain ⟨o1, e1⟩ := I'.base.there b o e (noex b)
    by_cases hm : b ∈ frs (envOfC qual scope s₀.heap.objs.size f cdv :: outer)
    · obtain ⟨sl2, e2⟩ := sl b _ e1 hm
      exact ⟨_, e2⟩
    · obtain ⟨o', e'⟩ := there b o e
      exact ⟨_, kp b o1 e1 (.inl (by rw [e']; simp)) hm⟩
  · cases q2 : s₀.heap.get? b with
    | none => rfl
    | some o =>
      obtain ⟨o', e'⟩ := there b o q2
      rw [q] at e'; cases e'
theorem okE {x qual : Str} {st : Stmt} {f : Addr} {fd : FuncData} {N ps : List Str} {k : Nat} {sp : Sp} (F : Fun K x qual st f fd) (S : FnScope N ps (defScope st)) (len : ∀ vs H Q E, sp vs H Q E → vs.length = ps.length)
    (hbody : ∀ (cdv : Value) (A : Around) (outer : List Env) (s : Shared) (H : Hp) (vs : List V) (Q : VK) (E : XK), Room k (A.deeper (envOfC qual (defScope st) s.heap.objs.size f cdv)) → sp vs H Q E →
      ∃ t, PSs (cxOf (CXE P w) P w K mg base N qual (defScope st) f cdv A outer s H E) (defBody st) t ∧ t { nx := fun _ H' => Q .non H', rt := Q } (start N vs) H) : FnOk P w K mg base (CXE P w) (k + 1) f fd ps sp := by
  obtain ⟨oc, od, kV, doc, pm, an, cdv, ct, osl, rfl, lk, hcd⟩ := F.ex
  exact fn_of lk hcd S len fun A outer s H vs Q E hr hsp => hbody cdv A outer s H vs Q E hr hsp
end
end Lx
namespace Lx
open PySem PySem.Spec PyProof.Rows L2
noncomputable abbrev vMro : List Value := [.type "ValueError", .type "Exception", .type "BaseException", .type "object"]
theorem own_obj {K : PySem.W.Frag} {h : Heap} {C : Addr} {bmB : List Value} {newId : String} (KI : K.In h) (q : PySem.W.excIn K C bmB newId = true) :
    ∃ bm N nm qn bs hdct sn sub ab col dd k0 k1 k2 k3 k5 mN, h.get? C = some (excClassObj nm qn C N bs bm hdct sn sub ab col dd k0 k1 k2 k3 k5 newId) ∧ h.Ns N mN ∧ mN "__init__" = none ∧ OwnTail h bmB bm := by
  unfold PySem.W.excIn at q
  split at q
  · rename_i dct cdat slts hlook
    split at q
    · rename_i Cx bmx s0 s1 s2 s3 nw s5 hmr hsl
      simp only [Bool.and_eq_true, beq_iff_eq, Bool.not_eq_true'] at q
      obtain ⟨⟨⟨⟨⟨q1, q2⟩, q3⟩, q4⟩, q5⟩, q6⟩ := q
      subst q1; subst q2
      obtain ⟨f1, f2, f3, f4, f5, f6, f7, f8, f9, f10, f11⟩ := cdat
      dsimp only at hmr q3 q5 q6
      subst hmr; subst q3
      obtain ⟨sl⟩ := slts
      dsimp only at hsl
      subst hsl
      exact ⟨bmx, f4, f1, f5, f2, f6, f7, f8, f9, f10, dct, s0, s1, s2, s3, s5, _, KI _ _ hlook, .of_isNs (PySem.W.isNs_of_in KI q5), PySem.W.nsMap_none_of_in KI q5 q6, PySem.W.tail_of_in KI q4⟩
    · cases q
  · cases q
structure ExcCl (K : PySem.W.Frag) (mg : Str → Option Value) (x : Str) (C : Addr) : Prop where
  ex : PySem.W.excIn K C vMro "ValueError.__new__" = true
  mgx : mg x = some (.ref C)
noncomputable def tRaise (E : XK) (C : Addr) (t : TA) : TS := fun _ σ H => t σ H fun vs H1 => vs.length ≤ sizeLine ∧ E (.ref C) none H1
section
variable {X : Cx} {P : Program} {w : World} {E : XK} {x : Str} {C : Addr} {np cpos pos : Pos} {e : Expr} {es : List Expr} {t : TA}
theorem ps_raise (O : ExcCl X.K X.mg x C) (hh : X.A.handled = none) (hx : Passes (CXE X.prog X.w) X E) (hg : Gl X x) (ha : PA X (e :: es) t) (hd : (x == ("__debug__" : Str)) = false := by decide)
    (he : starEach (e :: es) X.env = (false, eval e X.env) :: starEach es X.env := by rfl) (hpl : (backTo cpos (starEach es X.env)).any (·.1) = false := by rfl) :
    PS X (.Raise (some (.Call (.Name x np) (e :: es) [] cpos)) none pos) (tRaise E C t) := by
  intro pins s σ H D I h
  obtain ⟨bm, N, nm, qn, bs, hdct, sn, sub, ab, col, dd, k0, k1, k2, k3, k5, mN, hC, hN, hni, T⟩ := own_obj I.ok.mod.kin O.ex
  refine wpAny_Raise_call_subU (C := C) (nm := nm) (q := qn) (N := N) (bs := bs) (bm := bm) (hdct := hdct) (sn := sn) (sub := sub) (ab := ab) (col := col) (dd := dd) (k0 := k0) (k1 := k1) (k2 := k2) (k3 := k3) (k5 := k5)
    PySem.F.excBase_ValueError (by decide +kernel) PySem.F.excBase_ValueError (mN := mN) (T.hasType PySem.F.excBase_ValueError.hasBase) hh (by rw [he]; show (false || (backTo cpos (starEach es X.env)).any (·.1)) = false; rw [hpl]; rfl) hni (ld_glob I hg O.mgx ⟨rfl, ?_⟩ hd)
  have ha1 := thn (ha cpos pins s σ H _ I h) (Q' := fun vs s₂ => vs.length ≤ sizeLine ∧ (∀ b o, X.base.get? b = some o → s₂.heap.get? b = some o) ∧ ∀ h' e, Heap.MadeExcOf s₂.heap h' e (.ref C) vs → X.xe (.ref e) { s₂ with heap := h' }) (fun us s2 ⟨vs, H1, I1, r, z, q⟩ => ⟨by rw [← r.length]; exact z, I1.bk, fun h' e M => ?_⟩)
  · rw [he] at ha1 ⊢
    exact Calls.evalArgs_plain (wpAny_mono ha1 (fun vs s₂ h₂ => ⟨rfl, h₂.1, h₂.2.1 _ _ hC, hN.keeps h₂.2.1, T.keeps h₂.2.1, h₂.2.2⟩) fun _ _ y => y)
  · refine hx pins σ H1 s2 (.ref e) _ I1 ⟨e, .ref C, H1, rfl, rfl, I1.bare, Un.kept M.keeps, I1.hok.kept M.keeps, ?_, q⟩
    obtain ⟨tt, t1, t2, t3⟩ := M.there
    refine ⟨_, _, t1, rfl, rfl, ?_, M.new, .inl rfl⟩
    cases z : H1 e with
    | none => rfl
    | some o =>
      obtain ⟨u, hu⟩ := obj_get (I1.hok e o z)
      rw [M.new] at hu; cases hu
end
noncomputable abbrev XS := L2.St → XK
noncomputable abbrev TSX := Ends → XS → L2.St → Hp → Prop
section
variable {X : Cx} {st : Stmt} {rest : List Stmt} {t u : TSX} {pos : Pos}
variable {k : Nat} {f : Addr} {fd : FuncData} {ps : List Str} {sp : Sp} {x : Str} {p : Pos} {e : Expr} {es : List Expr} {ta : TA}
end
end Lx
namespace Lx
open PySem PySem.Spec PyProof.Rows L2
section
variable {X : Cx} {pins : List (Addr × Obj)} {σ : L2.St} {H : Hp} {s : Shared} {x : Addr}
structure Old (X : Cx) (pins : List (Addr × Obj)) (h₁ : Heap) : Prop where
  s0 : ∀ b o, X.s₀.heap.get? b = some o → b ∉ X.ex → ∃ u, h₁.get? b = some u
  lo : ∃ u, h₁.get? X.env.locals = some u
  pn : ∀ p ∈ X.pn ++ pins, ∃ u, h₁.get? p.1 = some u
  ce : ∀ x c, X.env.cells.lookup x = some c → ∃ u, h₁.get? c = some u
end
section
variable {X : Cx}
end
end Lx
namespace Lx
open PySem PySem.Spec PyProof.Rows L2
theorem bits_lt {i : Int} {n : Nat} (h : i.natAbs < 2 ^ n) : Builtin.Int.intBits i ≤ n := by
  unfold Builtin.Int.intBits
  split
  · exact Nat.zero_le _
  · rcases Nat.eq_zero_or_pos i.natAbs with h0 | hp
    · rename_i hne
      exact absurd (Int.natAbs_eq_zero.mp h0) (by simpa using hne)
    · have := (Nat.log2_lt (Nat.ne_of_gt hp)).mpr h
      omega
noncomputable def Wee (i : Int) : Prop := i.natAbs < 2 ^ 8000
theorem Wee.bits {i : Int} (h : Wee i) : Builtin.Int.intBits i ≤ 8000 := bits_lt h
theorem mulOk {i j : Int} (hi : Wee i) (hj : Wee j) : IntMulOk i j := IntMulOk.of_le hi.bits hj.bits (by decide)
theorem wee_log {i : Int} (h : Wee i) : i.natAbs.log2 < 9000 := by
  rcases Nat.eq_zero_or_pos i.natAbs with h0 | hp
  · rw [h0]; decide
  · have := (Nat.log2_lt (Nat.ne_of_gt hp)).mpr h
    omega
noncomputable def CMulB (i j : Int) : Prop := IntMulOk i j
noncomputable def CDivB (i j : Int) : Prop := 0 < j ∧ Wee j
noncomputable def CDivW (i j : Int) : Prop := j ≠ 0 ∧ Wee j
section
variable {X : Cx}
theorem op_mulB : OpR X (binaryOp .Mult) (rI CMulB fun i j => .int (i * j)) := opI fun _ _ _ _ _ _ _ hc q => mul_int q hc
theorem op_fdivW : OpR X (binaryOp .FloorDiv) (rI CDivW fun i j => .int (i.fdiv j)) := opI fun _ _ _ _ _ _ _ hc q => floordiv_int hc.1 q (.inl (PyProof.noPylong_of_log2 (wee_log hc.2)))
theorem op_fdivB : OpR X (binaryOp .FloorDiv) (rI CDivB fun i j => .int (i / j)) := opI fun i j _ _ _ _ _ hc q => by
  have h0 : (0 : Int) < j := hc.1
  refine floordiv_int (Int.ne_of_gt h0) ?_ (.inl (PyProof.noPylong_of_log2 (wee_log hc.2)))
  rw [Int.fdiv_eq_ediv_of_nonneg _ (Int.le_of_lt h0)]
  exact q
end
theorem bits_of_lay {ns : List Int} (h : PySem.W.WData.layableAll [PySem.W.WData.list (ns.map PySem.W.WData.int)] = true) : ∀ v ∈ ns, Builtin.Int.intBits v ≤ 1048576 := fun v hv => by
  have h1 := PySem.W.layableW_arg h _ (List.mem_singleton.mpr rfl)
  have h2 := PySem.W.layableW_item h1 (PySem.W.WData.int v) (List.mem_map.mpr ⟨v, hv, rfl⟩)
  obtain ⟨_, _, h3⟩ := PySem.W.layableW_iff.mp h2
  have e : (2 : Nat) ^ 20 = 1048576 := by decide
  rw [e] at h3
  simpa only [PySem.W.WData.weight, Builtin.Int.intBits] using h3
end Lx
namespace Att
open PySem PySem.W PySem.Calls PyProof.Rows
theorem attachB {l : OpenLaw} {n : Nat} {q : Program} {loose : List Str} {XP : (Str → Option Value) → Heap → Prop} {YP : World → Heap → Prop} {d : DefRec}
    (hn : l.most = some n) (hdf : d.params.defaults = [])
    (call : ∀ (w : World) (s₀ s₁ : Shared) (mg mb : Str → Option Value) (fa : Addr) (o : Obj) (pm cd doc : Value) (a : Addr) (vs : List Value) (ns : List Int),
      Ground q loose [] XP w s₀ mg mb s₁.heap → YP w s₁.heap →
      s₁.heap.get? fa = some o → o.data = .func (docDef d.name d.params d.body d.scope pm cd doc) → s₁.heap.CodeRec cd d.name → mg d.name = some (.ref fa) →
      s₁.heap.get? a = some { cls := .type "list", data := .seq vs.toArray } → IntsAre vs ns → ns.length ≤ n → (∀ v ∈ ns, Builtin.Int.intBits v ≤ 1048576) → s₁.gens = #[] →
      codeAny (model l.prog w) callerA (.call (.ref fa) ⟨[.ref a], []⟩) (fun r s' => r = .ok (.ret (.bool true)) ∧ OldK s₁.heap s'.heap ∧ s'.os = s₁.os ∧ AllBare s'.gens) s₁) :
    WalkO q loose XP YP l.row.toRowW d [] (fun f vs => PySem.call f vs) := by
  intro w s₀ s₁ mg mb G Y fa o pm cd doc dV kV ho hd hcd hD hmg hg args vals as hpre hlay hrd hwl hlo
  obtain rfl : dV = .none := Dflts.none hD hdf
  obtain rfl : kV = .none := Dflts.noKw hD
  obtain ⟨a, vs, ns, rfl, rfl, hobj, hints, hlen⟩ := script_of hn hpre hwl
  refine enter_call (codeAny_mono (call w s₀ s₁ mg mb fa o pm cd doc a vs ns G Y ho (fd_plain hd) hcd hmg hobj hints hlen (Lx.bits_of_lay hlay) hg) fun r s' hq => ?_)
  obtain ⟨rfl, h2, h3, h4⟩ := hq
  exact ⟨.inl ⟨.bool true, .bool true, [], rfl, fun _ => rfl, .bool true, post_true l _, fun _ => ⟨List.Pairwise.nil, fun _ hm => (nomatch hm)⟩⟩, h2, h3, h4⟩
end Att
namespace Lx
open PySem PySem.Spec PyProof.Rows L2
noncomputable def spLaw (K : PySem.W.Frag) : Sp := fun vs H Q _ => ∃ (a : Addr) (ns : List Int), vs = [.ref a] ∧ SqL K H a (ns.map V.int) ∧ ns.length ≤ 63 ∧ (∀ v ∈ ns, Builtin.Int.intBits v ≤ 1048576) ∧ Only H ∧ ∀ H', Q (.bl true) H'
theorem walkB {l : PySem.W.OpenLaw} {k : Nat} {q : Program} {loose : List Str} {XP : (Str → Option Value) → Heap → Prop} {YP : World → Heap → Prop} {d : DefRec} {K : Params → PySem.W.Frag}
    (hn : l.most = some 63) (hdf : d.params.defaults = []) (hr : Room k callerA)
    (hY : ∀ (w : World) (h : Heap), YP w h → (K w.params).In h)
    (F : ∀ (w : World) (mg : Str → Option Value) (fa : Addr) (h : Heap), (K w.params).In h → h.Ns mainGlobals mg → mg d.name = some (.ref fa) →
      ∃ fd : FuncData, (∀ (s : Shared) (u : Value), BindsTo s fd ⟨[u], []⟩ [("script", u)]) ∧
        ∀ base : Heap, (K w.params).In base → base.Ns mainGlobals mg → FnOk l.prog w (K w.params) mg base (CXE l.prog w) k fa fd ["script"] (spLaw (K w.params))) :
    PySem.W.WalkO q loose XP YP l.row.toRowW d [] (fun f vs => PySem.call f vs) := by
  refine Att.attachB hn hdf fun w s₀ s₁ mg mb fa o pm cd doc a vs ns G Y ho hd hcd hmg hobj hints hlen hbits hg => ?_
  have KX := hY w _ Y
  obtain ⟨fd, hb, hF⟩ := F w mg fa _ KX G.T.g hmg
  exact law_call KX G.T.g G.T.b G.T.builtins G.T.nolimit hg hobj hints (Nat.le_trans hlen (by decide)) hr hF hb (fun H hO hS => ⟨a, ns, rfl, hS, hlen, hbits, hO, fun _ => rfl⟩) fun H e s' ⟨_, _, _, _, _, _, _, _, _, h⟩ => h
end Lx
namespace Lx
open PySem PySem.Spec PyProof.Rows L2
section
variable {X : Cx} {tg : Expr}
end
end Lx
namespace Lx
open PySem PySem.Spec PyProof.Rows L2
section
variable {prog : Program} {w : World} {A : Around} {R : Result → Shared → Prop} {s : Shared}
theorem lc_loop {elt target iter : Expr} {ifs : List Expr} {scope : Scope} {pos : Pos} {it acc : Value} {cenv : Env} (J : Nat → Shared → Prop)
    (turn : ∀ n s, J n s → ∀ E' : Value → Shared → Prop, wpAny (model prog w) A (pyNext it) (fun r sa => match r with
      | none => R (.ok .next) sa
      | some v => wpAny (model prog w) A (letOwnedTupleGo target it v) (fun _ sb => wpAny (model prog w) A (assign target cenv v) (fun _ sc =>
          wpAny (model prog w) A (forIn ifs true fun c r => if r = true then do let ok ← isTrue c cenv (eval c cenv); pure (ForInStep.yield ok) else pure (ForInStep.yield r)) (fun ok sd =>
            if ok = true then wpAny (model prog w) A (eval elt cenv) (fun x se =>
              wpAny (model prog w) A (call (.builtin "list.append") [acc, x]) (fun _ sf => ∃ m, m < n ∧ J m sf) E' se) E' sd
            else ∃ m, m < n ∧ J m sd) E' sc) E' sb) E' sa) E' s)
    (n : Nat) (h : J n s) : codeAny (model prog w) A (.compLoop (.ListComp elt [⟨target, iter, ifs, 0⟩] scope pos) 0 it acc cenv) R s := by
  refine codeAny_loop rfl J (fun k sk hJ => ?_) n h
  show wpAny _ A ((compTurn (.ListComp elt [⟨target, iter, ifs, 0⟩] scope pos) 0 it acc cenv).onRaise (fun y => do noteFrame y cenv; theTreesLotGoes y)) _ _ sk
  refine wpAny_noted ?_
  rw [compTurn_list]
  refine wpAny_bind (wpAny_standAt (wpAny_bind (wpAny_mono (turn k sk hJ _) (fun r sa ha => ?_) fun _ _ z => z)))
  cases r with
  | none => exact wpAny_pure ha
  | some v =>
    refine wpAny_bind (wpAny_mono ha (fun _ sb hb => wpAny_bind (wpAny_mono hb (fun _ sc hc => wpAny_bind (wpAny_mono hc (fun ok sd hd => ?_) fun _ _ z => z)) fun _ _ z => z)) fun _ _ z => z)
    cases ok with
    | false => exact wpAny_pure ⟨rfl, hd⟩
    | true => exact wpAny_bind (wpAny_bind (wpAny_mono hd (fun x se he => wpAny_bind (wpAny_mono he (fun _ sf hf => wpAny_pure (wpAny_pure ⟨rfl, hf⟩)) fun _ _ z => z)) fun _ _ z => z))
end
noncomputable def lcCx (X : Cx) (scope : Scope) (cl : List (Str × Addr)) (NC : List Str) (C : Addr) (s₀ : Shared) (H₀ : Hp) (fp : List Addr) : Cx where
  prog := X.prog
  w := X.w
  K := X.K
  mg := X.mg
  base := X.base
  A := X.A
  N := NC
  s₀ := s₀
  H₀ := H₀
  env := compEnvC scope cl C X.env
  outer := X.stack
  stack := X.stack
  ex := fp
  fn := fun _ => false
  calm := X.calm
  pn := []
  xe := fun _ _ => False
noncomputable def CapsOk (X : Cx) (scope : Scope) (cl : List (Str × Addr)) : List (Option Nat) → List Str → Prop
  | [], [] => True
  | none :: cs, _ :: ns => CapsOk X scope cl cs ns
  | some i :: cs, y :: ns => (∃ c, X.N[i]? = some y ∧ X.env.scope.names.lookup y = some .cell ∧ cl.lookup y = some c ∧ X.env.cells.lookup y = some c ∧ (relabel scope X.env).names.lookup y = some .cell) ∧ CapsOk X scope cl cs ns
  | _, _ => False
theorem CapsOk.at {X : Cx} {scope : Scope} {cl : List (Str × Addr)} : ∀ {cs : List (Option Nat)} {ns : List Str} {j i : Nat} {y : Str}, CapsOk X scope cl cs ns → cs[j]? = some (some i) → ns[j]? = some y →
    ∃ c, X.N[i]? = some y ∧ X.env.scope.names.lookup y = some .cell ∧ cl.lookup y = some c ∧ X.env.cells.lookup y = some c ∧ (relabel scope X.env).names.lookup y = some .cell
  | [], _, j, i, y, _, e, _ => by simp at e
  | none :: cs, [], _, _, _, h, _, _ => False.elim h
  | some _ :: cs, [], _, _, _, h, _, _ => False.elim h
  | none :: cs, _ :: ns, 0, i, y, h, e, _ => by simp at e
  | none :: cs, _ :: ns, j + 1, i, y, h, e, e' => CapsOk.at (cs := cs) (ns := ns) (j := j) h (by simpa using e) (by simpa using e')
  | some k :: cs, z :: ns, 0, i, y, h, e, e' => by
    have e1 : k = i := by simpa using e
    have e2 : z = y := by simpa using e'
    subst e1; subst e2
    exact h.1
  | some k :: cs, z :: ns, j + 1, i, y, h, e, e' => CapsOk.at (cs := cs) (ns := ns) (j := j) h.2 (by simpa using e) (by simpa using e')
theorem CapsOk.len {X : Cx} {scope : Scope} {cl : List (Str × Addr)} : ∀ {cs : List (Option Nat)} {ns : List Str}, CapsOk X scope cl cs ns → cs.length = ns.length
  | [], [], _ => rfl
  | [], _ :: _, h => False.elim h
  | none :: cs, [], h => False.elim h
  | some _ :: cs, [], h => False.elim h
  | none :: cs, _ :: ns, h => congrArg (· + 1) (CapsOk.len (cs := cs) (ns := ns) h)
  | some _ :: cs, _ :: ns, h => congrArg (· + 1) (CapsOk.len (cs := cs) (ns := ns) h.2)
noncomputable def capσ (cap : List (Option Nat)) (σ : L2.St) : L2.St := cap.map fun o => o.bind fun i => (σ[i]?).bind id
noncomputable def PTs (X : Cx) (ifs : List Expr) (t : TT) : Prop :=
  ∀ (pins : List (Addr × Obj)) (s : Shared) (σ : L2.St) (H : Hp) (Q : Bool → Hp → Prop), Inv X pins σ H s → t σ H Q →
    wpAny (model X.prog X.w) X.A (forIn ifs true fun c r => if r = true then do let ok ← isTrue c X.env (eval c X.env); pure (ForInStep.yield ok) else pure (ForInStep.yield r)) (TP X pins σ Q) X.xe s
noncomputable def tYes : TT := fun _ H Q => Q true H
theorem pts_nil {X : Cx} : PTs X [] tYes := fun _ _ _ H _ I h => wpAny_tests_nil ⟨H, I, h⟩
theorem pts_one {X : Cx} {c : Expr} {t : TT} (h : PT X c t) : PTs X [c] t := fun pins s σ H Q I q => wpAny_tests_one (h pins s σ H Q I q)
noncomputable def tLC (wi : TI) (cap : List (Option Nat)) (g : TG) (tt : TT) (te : TE) : TE := fun σ H Q => wi σ H fun J H1 => ∀ D, H1 D = none →
  ∃ W : Nat → Nat → L2.St → Hp → Prop, (∃ m, W 0 m (capσ cap σ) (upd H1 D (.lst []))) ∧ ∀ i m σc Hc, W i m σc Hc →
    (J.stop i Hc ∧ Q (.ref D) Hc) ∨ (J.go i Hc ∧ ∃ N : L2.St → Hp → Prop, (∀ σ' H', N σ' H' → ∃ m', m' < m ∧ W (i + 1) m' σ' H') ∧ ∀ x H', J.yld i Hc x H' → g x σc H' fun σ2 H2 => tt σ2 H2 fun b H3 =>
      if b = true then te σ2 H3 fun y H4 => ∃ ys, H4 D = some (.lst ys) ∧ ys.length < sizeLine ∧ N σ2 (upd H4 D (.lst (ys ++ [y]))) else N σ2 H3)
structure LcOk (X : Cx) (scope : Scope) (cl : List (Str × Addr)) (cap : List (Option Nat)) (NC : List Str) : Prop where
  clos : closureFor scope X.env = pure cl
  kind : scope.kind = .function
  nocell : ∀ x ∈ scope.names, x.2 ≠ .cell
  names : ∀ x ∈ scope.names, x.2 = .local → scope.names.lookup x.1 = some .local
  caps : CapsOk X scope cl cap NC
  cells : ∀ p ∈ cl, X.env.cells.lookup p.1 = some p.2
  has : ((relabel scope X.env).names.all fun p => (p.2 != .cell && p.2 != .free) || (cl.lookup p.1).isSome) = true
section
variable {X : Cx} {elt target iter : Expr} {ifs : List Expr} {scope : Scope} {pos : Pos} {wi : TI} {cap : List (Option Nat)} {NC : List Str} {cl : List (Str × Addr)} {g : TG} {tt : TT} {te : TE}
theorem lc_cells (L : LcOk X scope cl cap NC) {x : Str} {c : Addr} (h : cl.lookup x = some c) : X.env.cells.lookup x = some c := L.cells (x, c) (PySem.mem_of_lookup h)
theorem lc_block {pins : List (Addr × Obj)} {σ : L2.St} {s₂ : Shared} {H2 : Hp} {it : Addr} {fp : List Addr} {tn : Nat → Heap → Prop} {J : It} {Z : Value → Addr → Result → Shared → Prop} {G : V → Hp → Prop}
    (hc : X.calm = true) (L : LcOk X scope cl cap NC) (hg : ∀ C s₀ H₀ fp, PG (lcCx X scope cl NC C s₀ H₀ fp) target g) (ht : ∀ C s₀ H₀ fp, PTs (lcCx X scope cl NC C s₀ H₀ fp) ifs tt) (he : ∀ C s₀ H₀ fp, PE (lcCx X scope cl NC C s₀ H₀ fp) elt te)
    (I2 : Inv X pins σ H2 s₂) (T : Turn X.prog X.w X.K target J fp it tn) (st2 : tn 0 s₂.heap) (f2 : ∀ b ∈ fp, FpOk X pins H2 b)
    (hW : ∀ D, H2 D = none → ∃ W : Nat → Nat → L2.St → Hp → Prop, (∃ m, W 0 m (capσ cap σ) (upd H2 D (.lst []))) ∧ ∀ i m σc Hc, W i m σc Hc →
      (J.stop i Hc ∧ G (.ref D) Hc) ∨ (J.go i Hc ∧ ∃ N : L2.St → Hp → Prop, (∀ σ' H', N σ' H' → ∃ m', m' < m ∧ W (i + 1) m' σ' H') ∧ ∀ x H', J.yld i Hc x H' → g x σc H' fun σ2 H2 => tt σ2 H2 fun b H3 =>
        if b = true then te σ2 H3 fun y H4 => ∃ ys, H4 D = some (.lst ys) ∧ ys.length < sizeLine ∧ N σ2 (upd H4 D (.lst (ys ++ [y]))) else N σ2 H3))
    (hZ : ∀ (D C : Addr) (Hc : Hp) (s' : Shared) (m : Str → Option Value), s'.heap.Ns C m → (∀ h', Heap.SameBut C s'.heap h' → ∀ t', Inv X pins σ Hc { s' with heap := h', toks := t' }) → FpOk X pins Hc C → G (.ref D) Hc → Z (.ref D) C (.ok .next) s') {E : Value → Shared → Prop} :
    wpAny (model X.prog X.w) X.A (newList []) (fun acc s₃ => wpAny (model X.prog X.w) X.A (newFunctionEnv scope X.env.globals cl [] X.env.qual none .none (some X.env)) (fun cenv s₄ =>
      codeAny (model X.prog X.w) X.A (.compStart (.ListComp elt [⟨target, iter, ifs, 0⟩] scope pos) 0 (.ref it) acc { cenv with scope := relabel scope X.env }) (Z acc cenv.locals) s₄) E s₃) E s₂ := by
  refine wpAny_newObj_type (wpAny_newFunctionEnv L.nocell (by intro y hy; simp at hy) (fun h₁ hns₁ hsb₁ => ?_) L.kind)
  dsimp only at hns₁ hsb₁ ⊢
  have nD : H2 s₂.heap.objs.size = none := I2.hok.fresh (Nat.le_refl _)
  have I3 : Inv X pins σ (upd H2 s₂.heap.objs.size (.lst [])) { s₂ with heap := s₂.heap.push { cls := .type "list", dict := none, data := .seq ([] : List Value).toArray } } := by
    refine I2.laid (t' := s₂.toks) (fun b u e => Heap.get?_push_of_some _ e) (Nat.le_refl _) ?_
    exact ⟨Nat.zero_le _, [], 0, .nil, Heap.get?_push_size _ rfl⟩
  obtain ⟨W, ⟨m0, w0⟩, turn⟩ := hW s₂.heap.objs.size nD
  generalize hD : s₂.heap.objs.size = D at nD I3 turn w0 ⊢
  generalize hH : s₂.heap.push { cls := .type "list", dict := none, data := .seq ([] : List Value).toArray } = h₀ at hns₁ hsb₁ I3 ⊢
  have hpush : ∀ b o, s₂.heap.get? b = some o → h₀.get? b = some o := fun b o e => by rw [← hH]; exact Heap.get?_push_of_some _ e
  generalize hC : h₀.objs.size = C at hns₁ hsb₁ ⊢
  have belowC : ∀ b o, h₀.get? b = some o → b ≠ C := fun b o e z => by
    have := Heap.lt_size e
    rw [hC, ← z] at this
    exact Nat.lt_irrefl _ this
  have old : ∀ b o, h₀.get? b = some o → h₁.get? b = some o := fun b o e => hsb₁.extBut b o (belowC b o e) (Heap.get?_push_of_some _ e)
  have f3 : ∀ b ∈ fp, FpOk X pins (upd H2 D (.lst [])) b := fun b hb => by
    obtain ⟨x1, x2⟩ := f2 b hb
    obtain ⟨o, e, _⟩ := T.obj 0 _ st2 b hb
    refine ⟨?_, x2⟩
    rw [upd_ne (fun z => by have := Heap.lt_size e; rw [z, ← hD] at this; exact Nat.lt_irrefl _ this)]
    exact x1
  have fpC : ∀ b ∈ fp, b ≠ C := fun b hb => by
    obtain ⟨o, e, _⟩ := T.obj 0 _ st2 b hb
    exact belowC b o (hpush b o e)
  have clC : ∀ x c, cl.lookup x = some c → c ≠ C := fun x c e => by
    obtain ⟨v, o, ho, _⟩ := I3.cell x c (lc_cells L e)
    exact belowC c o ho
  let Y : Cx := lcCx X scope cl NC C { s₂ with heap := h₀ } (upd H2 D (.lst [])) fp
  have noC : (upd H2 D (.lst [])) C = none := I3.hok.fresh (by show h₀.objs.size ≤ C; rw [hC]; exact Nat.le_refl _)
  have okY : Y.Ok := by
    refine ⟨I3.ok.mod, by show (relabel scope X.env).kind = _; exact L.kind, I3.ok.glob, I3.ok.blt, by show h₀.objs.size ≤ C; rw [hC]; exact Nat.le_refl _, fun x y c e1 e2 => I3.ok.inj x y c (lc_cells L e1) (lc_cells L e2), fun x hx => ?_, fun x c z => (by cases z), I3.ok.hd, I3.ok.frames, .inl rfl, fun b hb => ⟨fpC b hb, fun x c e => (f3 b hb).2.2.2.2.1 x c (lc_cells L e)⟩, I3.bs, Nat.le_trans I3.ok.bsz I3.sz, fun b o e hb => ?_, fun b hb hm => ?_, I3.stack, I3.stkFree⟩
    · have mem : ∃ k, (x, k) ∈ (relabel scope X.env).names ∧ (k = .cell ∨ k = .free) := by
        rcases hx with z | z
        · exact ⟨_, PySem.mem_of_lookup z, .inl rfl⟩
        · exact ⟨_, PySem.mem_of_lookup z, .inr rfl⟩
      obtain ⟨k, hk, hk2⟩ := mem
      have q := List.all_eq_true.mp L.has (x, k) hk
      have q2 : (cl.lookup x).isSome = true := by
        rcases hk2 with z | z
        · subst z; simpa using q
        · subst z; simpa using q
      exact Option.isSome_iff_exists.mp q2
    · rcases (f3 b hb).2.2.2.1 with z | z
      · exact I3.ok.noex b o e z
      · exact absurd (Nat.lt_of_lt_of_le (Heap.lt_size e) (Nat.le_trans I3.ok.bsz z)) (Nat.lt_irrefl _)
    · rcases List.mem_cons.mp (I3.stkSub b hm) with z | z
      · exact (f3 b hb).2.1 z
      · exact (f3 b hb).2.2.1 z
  have stat : ∀ {Hc : Hp}, (∀ b ∈ fp, Hc b = none) → ∀ b ∈ fp, FpOk Y [] Hc b := fun hn b hb =>
    ⟨hn b hb, fpC b hb, okY.exfs b hb, .inl hb, fun x c e => (okY.exf b hb).2 x c e, fun p hp => absurd (show p ∈ ([] ++ [] : List (Addr × Obj)) from hp) (by simp)⟩
  have back : ∀ {σc : L2.St} {Hc : Hp} {s' : Shared} {pn : List (Addr × Obj)}, Inv Y pn σc Hc s' → ∀ h', Heap.SameBut C s'.heap h' → ∀ t', Inv X pins σ Hc { s' with heap := h', toks := t' } := fun {σc Hc s' pn} I' h' sb t' => by
    have u := I'.base
    have nC : Hc C = none := I'.free
    refine I3.call' (s' := { s' with heap := h', toks := t' }) (ch := fp) I'.os ⟨fun b o e n hb hx => ?_, fun b o e n hb hx => ?_, u.free, fun b o e hx => ?_, u.tups, u.frzs, u.tbls⟩ (fun b o e => ?_) I'.bare (fun b hb => ⟨(f3 b hb).2.2.2.1, (f3 b hb).2.1, (f3 b hb).2.2.2.2.1, (f3 b hb).2.2.2.2.2⟩)
    · exact (sb.2 b (belowC b o e)).trans (u.keep b o e n hb hx)
    · obtain ⟨sl, q⟩ := u.slot b o e n hb hx
      exact ⟨sl, (sb.2 b (belowC b o e)).trans q⟩
    · obtain ⟨o', q⟩ := u.there b o e hx
      exact ⟨o', (sb.2 b (belowC b o e)).trans q⟩
    · refine (I'.hok b o e).stay (fun c v hcb q => (sb.2 c ?_).trans q) (fun _ q => q) fun _ _ q => q
      rintro rfl
      rcases hcb with z | z
      · subst z
        rw [nC] at e; cases e
      · rw [nC] at z; cases z
  have Ist : ∀ t', Inv Y [] (capσ cap σ) (upd H2 D (.lst [])) { s₂ with heap := h₁, toks := t' } := fun t' => by
    refine ⟨okY, rfl, I3.bare, ⟨fun b o e _ _ _ => old b o e, fun b o e _ _ _ => ⟨o.slots, old b o e⟩, fun _ _ _ n _ => n, fun b o e _ => ⟨o, old b o e⟩, fun _ _ e => e, fun _ _ _ e => e, fun b ps e => ⟨#[], by rw [show (upd H2 D (.lst [])) b = _ from e]; simp⟩⟩, ⟨_, hns₁, fun j y v e1 e2 e3 => ?_⟩, fun y c e => ?_, noC, fun y c e => I3.freeC y c (lc_cells L e), fun p hp => absurd (show p ∈ ([] ++ [] : List (Addr × Obj)) from hp) (by simp), I3.hok.kept old, by
      show (cap.map _).length = NC.length
      rw [List.length_map]; exact L.caps.len⟩
    · have e2' : (cap.map fun o => o.bind fun i => (σ[i]?).bind id)[j]? = some (some v) := e2
      rw [List.getElem?_map] at e2'
      cases hq : cap[j]? with
      | none => rw [hq] at e2'; cases e2'
      | some o =>
        rw [hq] at e2'
        cases o with
        | none => cases e2'
        | some i =>
          have e4 : (σ[i]?).bind id = some v := by simpa using e2'
          have e5 : σ[i]? = some (some v) := by
            cases hs : σ[i]? with
            | none => rw [hs] at e4; cases e4
            | some z => rw [hs] at e4; simpa using e4
          obtain ⟨c, x1, x2, x3, x4, x5⟩ := L.caps.at hq e1
          obtain ⟨m, hn, hl⟩ := I3.loc
          obtain ⟨u, r, l⟩ := hl i y v x1 e5 (.inr (.inl x2))
          refine ⟨u, r, .inr ⟨.inl x5, c, x3, ?_⟩⟩
          rcases l with ⟨k, _⟩ | ⟨_, c', x6, z⟩
          · have k' : X.env.scope.names.lookup y = some .local := k
            rw [x2] at k'; cases k'
          · rw [x4] at x6; cases x6
            obtain ⟨o, ho, hd⟩ := z
            exact ⟨o, old _ _ ho, hd⟩
    · obtain ⟨v, o, ho, hd⟩ := I3.cell y c (lc_cells L e)
      exact ⟨v, o, old _ _ ho, hd⟩
  have loop : ∀ s₃ : Shared, s₃ = { s₂ with heap := h₁, toks := s₂.toks + ([] : List (Str × Value)).length } →
      codeAny (model X.prog X.w) X.A (.compLoop (.ListComp elt [⟨target, iter, ifs, 0⟩] scope pos) 0 (.ref it) (.ref D) (compEnvC scope cl C X.env)) (Z (.ref D) C) s₃ := by
    rintro s₃ rfl
    refine lc_loop (fun n s' => ∃ i σc Hc, Inv Y [] σc Hc s' ∧ tn i s'.heap ∧ (∀ b ∈ fp, Hc b = none) ∧ W i n σc Hc) ?_ m0 ⟨0, capσ cap σ, _, Ist _, T.keep _ _ _ st2 (fun b hb o e => old b o (hpush b o e)), fun b hb => (f3 b hb).1, w0⟩
    rintro n s5 ⟨i, σc, Hc, I5, st5, fr5, w5⟩ E'
    rcases turn i n σc Hc w5 with ⟨stop, qn⟩ | ⟨go, N, hN, step⟩
    · refine wpAny_mono (T.done Y rfl rfl rfl hc i [] s5 σc Hc E' I5 (stat fr5) st5 stop) (fun r s6 ⟨hr, I6⟩ => ?_) fun _ _ z => z
      subst hr
      obtain ⟨m, hn, _⟩ := id I6.loc
      exact hZ D C Hc s6 m hn (back I6) (I3.fpOk (by show h₀.objs.size ≤ C; rw [hC]; exact Nat.le_refl _) I6.free) qn
    · refine wpAny_mono (T.item Y rfl rfl rfl hc i [] s5 σc Hc E' I5 (stat fr5) st5 go) (fun r s6 ⟨u, hr, h6⟩ => ?_) fun _ _ z => z
      subst hr
      refine wpAny_mono h6 (fun _ s7 ⟨x, H7, I7, r7, y7, st7, fr7⟩ => ?_) fun _ _ z => z
      have I7' := I7.pinned (stat fr7) (T.obj _ _ st7)
      refine wpAny_mono (hg C _ _ fp _ s7 σc H7 x u _ I7' r7 (step x H7 y7)) (fun _ s8 ⟨σ8, H8, I8, q8⟩ => ?_) fun _ _ z => False.elim z
      have again : ∀ {σ9 : L2.St} {H9 : Hp} {s9 : Shared}, Inv Y ([] ++ pinsAt fp s7.heap) σ9 H9 s9 → N σ9 H9 → ∃ m, m < n ∧ ∃ i σ' H', Inv Y [] σ' H' s9 ∧ tn i s9.heap ∧ (∀ b ∈ fp, H' b = none) ∧ W i m σ' H' := fun {σ9 H9 s9} I9 n9 => by
        obtain ⟨m', hm, w9⟩ := hN σ9 H9 n9
        refine ⟨m', hm, i + 1, σ9, H9, I9.unpinned, T.keep _ _ _ st7 fun b hb o e => (I9.pin (b, o) (List.mem_append_right _ (List.mem_append_right _ (mem_pinsAt hb e)))).1, fun b hb => ?_, w9⟩
        obtain ⟨o, e, d⟩ := T.obj _ _ st7 b hb
        exact (I9.pin (b, o) (List.mem_append_right _ (List.mem_append_right _ (mem_pinsAt hb e)))).2.1
      refine wpAny_mono (ht C _ _ fp _ s8 σ8 H8 _ I8 q8) (fun ok s9 ⟨H9, I9, q9⟩ => ?_) fun _ _ z => False.elim z
      cases ok with
      | false =>
        rw [if_neg Bool.false_ne_true] at q9 ⊢
        exact again I9 q9
      | true =>
        rw [if_pos rfl] at q9 ⊢
        refine wpAny_mono (he C _ _ fp _ s9 σ8 H9 _ I9 q9) (fun v sa ⟨y, Ha, Ia, ra, ys, hy, hl, na⟩ => ?_) fun _ _ z => False.elim z
        have app := mt_append (X := Y) _ sa σ8 Ha (.ref D) [y] (.ref D) [v] (fun _ Hb => N σ8 Hb) Ia rfl (.cons ra .nil) ⟨D, ys, y, rfl, rfl, hy, hl, na⟩
        exact wpAny_mono app (fun _ sb ⟨_, Hb, Ib, _, nb⟩ => again Ib nb) fun _ _ z => False.elim z
  exact codeAny_compStart_list (loop _ rfl) (T.self _ 0 _ _ _ (T.keep _ _ _ st2 fun b hb o e => old b o (hpush b o e)) (loop _ rfl))
theorem pe_lc (hc : X.calm = true) (L : LcOk X scope cl cap NC) (hi : PI X target iter wi) (hg : ∀ C s₀ H₀ fp, PG (lcCx X scope cl NC C s₀ H₀ fp) target g) (ht : ∀ C s₀ H₀ fp, PTs (lcCx X scope cl NC C s₀ H₀ fp) ifs tt) (he : ∀ C s₀ H₀ fp, PE (lcCx X scope cl NC C s₀ H₀ fp) elt te)
    (hs : ∀ x, foldedSetIterable iter X.env x = pure x := by intro _; rfl) : PE X (.ListComp elt [⟨target, iter, ifs, 0⟩] scope pos) (tLC wi cap g tt te) := by
  intro pins s σ H Q I h
  rw [eval_ListComp]
  refine wpAny_comprehension_free (use := none) rfl hs L.clos L.kind L.names (thn (hi pins s σ H _ I h) fun xv s₁ h₁ => thn h₁ fun itv s₂ h₂ => ?_)
  obtain ⟨it, fp, tn, J, H2, rfl, I2, T, st2, f2, hq⟩ := h₂
  refine lc_block (G := Q) hc L hg ht he I2 T st2 f2 hq fun D C Hc s' m hn back _ q => ?_
  exact ⟨m, hn, fun h' sb => ⟨.ref D, Hc, back h' sb _, rfl, q⟩⟩
end
end Lx
namespace Lx
open PySem PySem.Spec PyProof.Rows L2
mutual
inductive DV (K : PySem.W.Frag) (H : Hp) : V → PyData → Prop
  | non : DV K H .non .none
  | bl (b : Bool) : DV K H (.bl b) (.bool b)
  | int (i : Int) : DV K H (.int i) (.int i)
  | str (x : Str) : DV K H (.str x) (.str x)
  | tup {a : Addr} {xs : List V} {ds : List PyData} : SqT K H a xs → DVs K H xs ds → DV K H (.ref a) (.tuple ds)
  | lst {a : Addr} {xs : List V} {ds : List PyData} : SqL K H a xs → DVs K H xs ds → DV K H (.ref a) (.list ds)
    | dct {a : Addr} {x y : Str} : H a = some (.dK [(.inr x, .str y)]) → DV K H (.ref a) (.dict [(.str x, .str y)])
inductive DVs (K : PySem.W.Frag) (H : Hp) : List V → List PyData → Prop
  | nil : DVs K H [] []
  | cons {x : V} {xs : List V} {d : PyData} {ds : List PyData} : DV K H x d → DVs K H xs ds → DVs K H (x :: xs) (d :: ds)
end
section
variable {X : Cx} {pins : List (Addr × Obj)} {σ : L2.St} {H : Hp} {s : Shared}
mutual
theorem dv_reads (I : Inv X pins σ H s) : ∀ {x : V} {d : PyData} {u : Value}, DV X.K H x d → RelV x u → ∃ as, Reads s.heap u d as
  | _, _, u, .non, r => by
    cases (show u = Value.none from r)
    exact ⟨_, .none⟩
  | _, _, u, .bl b, r => by
    cases (show u = Value.bool b from r)
    exact ⟨_, .bool b⟩
  | _, _, u, .int i, r => by
    obtain ⟨t, rfl⟩ := r
    exact ⟨_, .int i t⟩
  | _, _, u, .str x, r => by
    obtain ⟨t, rfl⟩ := r
    exact ⟨_, .str x t⟩
  | _, _, u, @DV.tup _ _ a xs ds h hs, r => by
    cases (show u = Value.ref a from r)
    obtain ⟨its, rv, ⟨o, ho, hc, n, hd⟩, _⟩ := I.tuple h
    obtain ⟨as, q⟩ := dvs_reads I hs rv
    exact ⟨_, .tuple ho hc hd (by simpa using q)⟩
  | _, _, u, @DV.lst _ _ a xs ds h hs, r => by
    cases (show u = Value.ref a from r)
    obtain ⟨its, rv, ⟨o, n, ho, hc, _, hd⟩, _⟩ := I.list h
    obtain ⟨as, q⟩ := dvs_reads I hs rv
    exact ⟨_, .list ho hc hd (by simpa using q)⟩
  | _, _, u, @DV.dct _ _ a x y h, r => by
    cases (show u = Value.ref a from r)
    obtain ⟨_, _, vs, rel, o, es, ep, ho, hc, hd, hk, hp, _⟩ := (show ObjOk X.prog X.w H s.heap a (.dK [(.inr x, .str y)]) from I.hok a _ h)
    unfold KV at rel
    cases rel with
    | @cons p q ps qs h1 t =>
      cases t
      obtain ⟨k, v⟩ := q
      obtain ⟨e1, t1, e2⟩ := h1
      have e1' : Sum.inr x = k := e1
      subst e1'
      have e2' : v = Value.str y t1 := e2
      subst e2'
      generalize hes : es.toList = l at hp
      cases hp with
      | @cons e kv es' kvs' hk1 hv1 ht1 =>
        cases ht1
        have hk2 : keyIs (.inr x) e.key = true := hk1
        have ek : ∃ t2, e.key = Value.str x t2 := by
          rcases keyIs_shape hk2 with ⟨i, t2, z, _⟩ | ⟨x2, t2, z, z2⟩
          · exact nomatch z
          · cases z; exact ⟨t2, z2⟩
        obtain ⟨t2, ek⟩ := ek
        have ev : e.val = Value.str y t1 := hv1
        exact ⟨_, .dict (as := [] ++ []) (bs := [] ++ []) ho hc.1 hd (by rw [hes]; show ReadsAll _ [e.key] [PyData.str x] _; rw [ek]; exact .cons (.str x t2) .nil) (by rw [hes]; show ReadsAll _ [e.val] [PyData.str y] _; rw [ev]; exact .cons (.str y t1) .nil)⟩
theorem dvs_reads (I : Inv X pins σ H s) : ∀ {xs : List V} {ds : List PyData} {us : List Value}, DVs X.K H xs ds → Vals xs us → ∃ as, ReadsAll s.heap us ds as
  | _, _, _, .nil, .nil => ⟨_, .nil⟩
  | _, _, _, .cons h hs, .cons r rs => by
    obtain ⟨as, q⟩ := dv_reads I h r
    obtain ⟨bs, qs⟩ := dvs_reads I hs rs
    exact ⟨_, .cons q qs⟩
end
end
structure Enc (α : Type) where
  d : α → PyData
  dep : Nat
  small : dep ≤ 60
  lay : ∀ x, (d x).canLay0 = true
  depth : ∀ x, (d x).depth ≤ dep
  eqv : ∀ x y, PyData.eqv (d x) (d y) = true ↔ x = y
theorem Enc.shaped {α : Type} (e : Enc α) (x : α) : SeqAt.shaped (e.d x) = true := by
  unfold SeqAt.shaped
  rw [e.lay, Bool.true_and]
  exact decide_eq_true (Nat.le_trans (e.depth x) (Nat.le_trans e.small (by decide)))
theorem enc_all {α : Type} (e : Enc α) : ∀ (xs : List α), PyData.canLayAll0 (xs.map e.d) = true ∧ PyData.depthAll (xs.map e.d) ≤ e.dep
  | [] => ⟨rfl, by simp [PyData.depthAll]⟩
  | x :: xs => by
    obtain ⟨h1, h2⟩ := enc_all e xs
    have h3 := e.lay x
    have h4 := e.depth x
    constructor
    · show ((e.d x).canLay0 && PyData.canLayAll0 (xs.map e.d)) = true
      rw [h3, h1]; rfl
    · show PyData.depthAll (e.d x :: xs.map e.d) ≤ e.dep
      simp only [PyData.depthAll]
      omega
theorem enc_eqvAll {α : Type} (e : Enc α) : ∀ (xs ys : List α), PyData.eqvAll (xs.map e.d) (ys.map e.d) = true ↔ xs = ys
  | [], [] => by simp [PyData.eqvAll]
  | [], y :: ys => by simp [PyData.eqvAll]
  | x :: xs, [] => by simp [PyData.eqvAll]
  | x :: xs, y :: ys => by
    have h := enc_eqvAll e xs ys
    have h2 := e.eqv x y
    simp only [List.map_cons, PyData.eqvAll, Bool.and_eq_true, h, h2, List.cons.injEq]
noncomputable def eList {α : Type} (e : Enc α) (h : e.dep ≤ 50) : Enc (List α) where
  d := fun xs => .list (xs.map e.d)
  dep := e.dep + 1
  small := by omega
  lay := fun xs => by show PyData.canLayAll0 _ = true; exact (enc_all e xs).1
  depth := fun xs => by
    have := (enc_all e xs).2
    simp only [PyData.depth]
    omega
  eqv := fun xs ys => by
    show PyData.eqvAll _ _ = true ↔ _
    exact enc_eqvAll e xs ys
noncomputable def eRat : Enc Rat where
  d := fun q => .tuple [.int q.num, .int (q.den : Int)]
  dep := 1
  small := by decide
  lay := fun q => by simp [PyData.canLay0, PyData.canLayAll0]
  depth := fun q => by simp [PyData.depth, PyData.depthAll]
  eqv := fun p q => by
    simp only [PyData.eqv, PyData.eqvAll, Bool.and_eq_true, beq_iff_eq, and_true]
    constructor
    · rintro ⟨h1, h2⟩
      exact Rat.ext h1 (by omega)
    · rintro rfl
      exact ⟨rfl, rfl⟩
noncomputable def rEqD (K : PySem.W.Frag) (neg : Bool) : R2 := fun x y H Q => ∃ (α : Type) (e : Enc α) (a b : α), DV K H x (e.d a) ∧ DV K H y (e.d b) ∧ ∀ k : Bool, (k = true ↔ a = b) → Q (.bl (if neg then !k else k)) H
section
variable {X : Cx}
theorem op_eqD (hu : X.A.units + 64 < cLine) : OpR X (compareOp .Eq) (rEqD X.K false) := by
  intro pins s σ H x y v u Q I rx ry h
  obtain ⟨α, e, a, b, da, db, q⟩ := h
  obtain ⟨as, r1⟩ := dv_reads I da rx
  obtain ⟨bs, r2⟩ := dv_reads I db ry
  exact eq_dataH r1 r2 (e.shaped a) (e.shaped b) hu ⟨.bl _, H, I, rfl, q _ (e.eqv a b)⟩
theorem op_neD (hu : X.A.units + 64 < cLine) : OpR X (compareOp .NotEq) (rEqD X.K true) := by
  intro pins s σ H x y v u Q I rx ry h
  obtain ⟨α, e, a, b, da, db, q⟩ := h
  obtain ⟨as, r1⟩ := dv_reads I da rx
  obtain ⟨bs, r2⟩ := dv_reads I db ry
  exact ne_dataH r1 r2 (e.shaped a) (e.shaped b) hu ⟨.bl _, H, I, rfl, q _ (e.eqv a b)⟩
theorem any_enc {α : Type} (e : Enc α) (a : α) : ∀ bs : List α, ((bs.map e.d).any fun y => PyData.eqv y (e.d a)) = true ↔ a ∈ bs
  | [] => by simp
  | b :: bs => by
    have h := any_enc e a bs
    have h2 := e.eqv b a
    simp only [List.map_cons, List.any_cons, Bool.or_eq_true, h, h2, List.mem_cons]
    constructor
    · rintro (z | z)
      · exact .inl z.symm
      · exact .inr z
    · rintro (z | z)
      · exact .inl z.symm
      · exact .inr z
end
end Lx
namespace Lx
open PySem PySem.Spec PyProof.Rows L2
structure ExcK (K : PySem.W.Frag) (C : Addr) : Prop where
  fg : PySem.W.findIn K (.ref C) "__getattribute__" = some (some (.builtin "BaseException.__getattribute__"))
  fa : PySem.W.findIn K (.ref C) "__getattr__" = some none
  fc : PySem.W.findIn K (.ref C) "__class__" = some (some (.builtin "object.__class__"))
  so : PySem.W.subIn K (.ref C) (.type "object") = some true
  sb : PySem.W.subIn K (.ref C) (.type "BaseException") = some true
section
variable {prog : Program} {w : World} {A : Around} {E : Value → Shared → Prop} {h : Heap} {g : Array GenState} {d : Drawn} {t : Nat} {os : OsState} {a C : Addr} {o : Obj} {K : PySem.W.Frag}
end
noncomputable def IsExc (x C : Addr) (h : Heap) : Prop := ∃ o vs, h.get? x = some o ∧ o.cls = .ref C ∧ o.data = .fields vs
section
variable {X : Cx}
variable {pins : List (Addr × Obj)} {σ : L2.St} {H : Hp} {s : Shared} {x C : Addr}
end
end Lx
namespace Lx
open PySem PySem.Spec PyProof.Rows L2
section
variable {X : Cx} {K : PySem.W.Frag}
theorem ixlK (h : X.K = K) : IxR X (rIxL K) := by subst h; exact ix_list
theorem ixtK (h : X.K = K) : IxR X (rIxT K) := by subst h; exact ix_tup
theorem lenK (h : X.K = K) : CallR X (.builtin "len") (fun xs H Q => ∃ p ys, xs = [.ref p] ∧ (SqL K H p ys ∨ SqT K H p ys) ∧ Q (.int ys.length) H) := by subst h; exact call_len_seq
theorem listK (h : X.K = K) : CallR X (.type "list") (fun xs H Q => ∃ p ys, xs = [.ref p] ∧ (SqL K H p ys ∨ SqT K H p ys) ∧ ∀ l, H l = none → Q (.ref l) (upd H l (.lst ys))) := by subst h; exact call_list_of
theorem sllK (h : X.K = K) : SlR X (rSlL K) := by subst h; exact sl_list
theorem eqK (h : X.K = K) (hu : X.A.units + 64 < cLine) : OpR X (compareOp .Eq) (rEqD K false) := by subst h; exact op_eqD hu
theorem neK (h : X.K = K) (hu : X.A.units + 64 < cLine) : OpR X (compareOp .NotEq) (rEqD K true) := by subst h; exact op_neD hu
theorem pilK {tg l : Expr} {tl : TE} (h : X.K = K) (hl : PE X l tl) : PI X tg l (iList K tl) := by subst h; exact pi_list hl
theorem pgtK {es : List Expr} {k : Nat} {pos : Pos} {t : TGs} {n : Nat} (h : X.K = K) (hc : X.calm = true) (hg : PGs X es t)
    (hn : (assignEach es X.env).length = n := by rfl) (hst : (assignEach es X.env).findIdx? (·.1) = none := by rfl) : PG X (.Tuple es k pos) (gTup K n t) := by subst h; exact pg_tup hc hg hn hst
end
end Lx
namespace Lx
open PySem PySem.Spec PyProof.Rows L2
section
variable {X : Cx} {elt target iter : Expr} {ifs : List Expr} {scope : Scope} {pos spos pos' : Pos} {wi : TI} {cap : List (Option Nat)} {NC : List Str} {cl : List (Str × Addr)} {g : TG} {tt : TT} {te : TE}
theorem ps_setLC {i : Nat} {x : Str} (hN : X.N.Nodup) (hi : X.N[i]? = some x) (hx : X.env.scope.names.lookup x = some .local) (hc : X.calm = true) (L : LcOk X scope cl cap NC) (hit : PI X target iter wi)
    (hg : ∀ C s₀ H₀ fp, PG (lcCx X scope cl NC C s₀ H₀ fp) target g) (ht : ∀ C s₀ H₀ fp, PTs (lcCx X scope cl NC C s₀ H₀ fp) ifs tt) (he : ∀ C s₀ H₀ fp, PE (lcCx X scope cl NC C s₀ H₀ fp) elt te)
    (hsw : swapsWith (.ListComp elt [⟨target, iter, ifs, 0⟩] scope pos) (some (.Name x pos')) spos.line X.env = pure true := by rfl)
    (hs : ∀ x, foldedSetIterable iter X.env x = pure x := by intro _; rfl) : PS X (.Assign [.Name x pos'] (.ListComp elt [⟨target, iter, ifs, 0⟩] scope pos) spos) (tAsg (tLC wi cap g tt te) (gName i)) := by
  intro pins s σ H D I h
  rw [exec_Assign_Name_used _ _ _ _ hsw]
  refine wpAny_bind (wpAny_standAt (wpAny_bind ?_))
  show wpAny _ X.A (do let _ ← comprehension (.ListComp elt [⟨target, iter, ifs, 0⟩] scope pos) scope X.env _ (newList []) false (eval iter X.env) (some (assign (.Name x pos') X.env))) _ _ s
  refine wpAny_bind (wpAny_mono (wpAny_comprehension_free (use := some (assign (.Name x pos') X.env)) (Q := fun _ s' => SP X pins D .next s') rfl hs L.clos L.kind L.names
    (thn (hit pins s σ H _ I h) fun xv s₁ h₁ => thn h₁ fun itv s₂ h₂ => ?_)) (fun _ s' hq => wpAny_pure (wpAny_pure hq)) fun _ _ e => e)
  obtain ⟨it, fp, tn, J, H2, rfl, I2, T, st2, f2, hq⟩ := h₂
  refine lc_block (G := fun v H' => D.nx (σ.set i (some v)) H') hc L hg ht he I2 T st2 f2 hq fun Dd C Hc s' m hn back fpC q => ?_
  obtain ⟨z1, z2, z3, z4, z5, z6⟩ := fpC
  have Ib : Inv X pins σ Hc s' := back s'.heap (.refl _ _) s'.toks
  show wpAny _ X.A (assign (.Name x pos') X.env (.ref Dd)) _ _ _
  refine wpAny_assign_Name (store_ok2 Ib hN hi (.inl hx) (show RelV (.ref Dd) (.ref Dd) from rfl) (fun s2 I2 ⟨a, sb, ha⟩ => ?_) (.inr hx))
  have hCa : C ≠ a := by
    rcases ha with z | z
    · rw [z]; exact z2
    · exact fun e => z5 x a z e.symm
  refine ⟨m, hn.sameBut sb hCa, fun h' sb' => ⟨_, Hc, ?_, q⟩⟩
  exact I2.turned (t' := s2.toks) (it := C) (fun b o hb e => (sb'.2 b hb).trans e) z1 z2 z4 z5 z6
end
theorem ints_vals : ∀ {ns : List Int} {us : List Value}, Vals (ns.map V.int) us → ∃ xs : List (Int × Tok), us = xs.map (fun p => Value.int p.1 p.2) ∧ xs.map (·.1) = ns
  | [], _, .nil => ⟨[], rfl, rfl⟩
  | n :: ns, _, .cons r rs => by
    obtain ⟨t, rfl⟩ := r
    obtain ⟨xs, rfl, e⟩ := ints_vals rs
    exact ⟨(n, t) :: xs, rfl, by simp [e]⟩
section
variable {X : Cx} {K : PySem.W.Frag}
theorem call_sum (hc : X.calm = true) : CallR X (.builtin "sum") (fun xs H Q => ∃ (p : Addr) (ns : List Int), xs = [.ref p] ∧ SqL X.K H p (ns.map V.int) ∧ Q (.int ns.sum) H) := by
  intro pins s σ H xs us Q I r h
  obtain ⟨p, ns, rfl, hq, q⟩ := h
  obtain ⟨u, rfl, rx⟩ := vals1 r
  cases rx
  obtain ⟨its, r', pl, hz⟩ := I.list hq
  obtain ⟨ys, rfl, e⟩ := ints_vals r'
  have hl : s.heap.IsList p (intItems ys.toArray) := by
    have := pl.isList
    simpa [intItems] using this
  refine sum_intListG (I.ok.hd hc) hl fun h' tk t' hk => ?_
  refine ⟨.int ns.sum, H, I.kept (t' := tk) hk, ⟨t', ?_⟩, q⟩
  rw [preSum_eq, List.take_of_length_le (by simp)]
  simp [e]
theorem sumK (h : X.K = K) (hc : X.calm = true) : CallR X (.builtin "sum") (fun xs H Q => ∃ (p : Addr) (ns : List Int), xs = [.ref p] ∧ SqL K H p (ns.map V.int) ∧ Q (.int ns.sum) H) := by subst h; exact call_sum hc
end
end Lx
namespace Fm
theorem abs_if (i : Int) : (if i < 0 then -i else i) = ((i.natAbs : Nat) : Int) := by omega
theorem gcd_step (a b : Int) (h : 0 < b) : Int.gcd b (a % b) = Int.gcd a b := by
  rw [Int.gcd_comm b (a % b), Int.emod_def]
  exact Int.gcd_sub_mul_left_left _ _ _
theorem gcd_zero {a : Int} (h : 0 ≤ a) : ((Int.gcd a 0 : Nat) : Int) = a := by
  rw [Int.gcd_zero_right]; omega
theorem gcd_le_right {a b : Int} (hb : b ≠ 0) : Int.gcd a b ≤ b.natAbs := Nat.le_of_dvd (by omega) (Int.gcd_dvd_natAbs_right a b)
theorem gcd_pos_right {a b : Int} (hb : b ≠ 0) : 0 < Int.gcd a b := Int.gcd_pos_of_ne_zero_right a hb
theorem fr_num {t b : Int} (hb : b ≠ 0) : t.fdiv (if b < 0 then -((Int.gcd t b : Nat) : Int) else ((Int.gcd t b : Nat) : Int)) = (Rat.divInt t b).num := by
  rw [Rat.num_divInt, Int.gcd_comm b t]
  have hg : (0 : Int) < ((Int.gcd t b : Nat) : Int) := by have := gcd_pos_right (a := t) hb; omega
  have hd : ((Int.gcd t b : Nat) : Int) ∣ t := Int.gcd_dvd_left t b
  split
  · rename_i hn
    rw [Int.sign_eq_neg_one_of_neg hn]
    obtain ⟨k, hk⟩ := hd
    generalize ((Int.gcd t b : Nat) : Int) = g at hg hk
    subst hk
    rw [show -1 * (g * k) = g * (-k) by grind, Int.mul_ediv_cancel_left _ (by omega)]
    rw [show g * k = (-g) * (-k) by grind]
    exact Int.mul_fdiv_cancel_left _ (by omega)
  · rename_i hn
    rw [Int.sign_eq_one_of_pos (by omega), Int.one_mul, Int.fdiv_eq_ediv_of_nonneg _ (by omega)]
theorem fr_den {t b : Int} (hb : b ≠ 0) : b.fdiv (if b < 0 then -((Int.gcd t b : Nat) : Int) else ((Int.gcd t b : Nat) : Int)) = (((Rat.divInt t b).den : Nat) : Int) := by
  rw [Rat.den_divInt, if_neg hb, Int.gcd_comm b t]
  have hg : (0 : Int) < ((Int.gcd t b : Nat) : Int) := by have := gcd_pos_right (a := t) hb; omega
  have hd : ((Int.gcd t b : Nat) : Int) ∣ b := Int.gcd_dvd_right t b
  rw [Int.natCast_ediv]
  split
  · rename_i hn
    rw [show ((b.natAbs : Nat) : Int) = -b by omega]
    obtain ⟨k, hk⟩ := hd
    generalize ((Int.gcd t b : Nat) : Int) = g at hg hk
    subst hk
    rw [show -(g * k) = g * (-k) by grind, Int.mul_ediv_cancel_left _ (by omega)]
    rw [show g * k = (-g) * (-k) by grind]
    exact Int.mul_fdiv_cancel_left _ (by omega)
  · rename_i hn
    rw [show ((b.natAbs : Nat) : Int) = b by omega, Int.fdiv_eq_ediv_of_nonneg _ (by omega)]
theorem add_parts (a b : Rat) (s : Nat) (hs : s = a.den.gcd b.den) (tp : Int) (ht : tp = a.num * ((b.den / s : Nat) : Int) + b.num * ((a.den / s : Nat) : Int)) (g : Nat) (hg : g = s.gcd tp.natAbs) :
    (a + b).num = tp / (g : Int) ∧ (a + b).den = a.den / s * (b.den / g) := by
  have hs0 : 0 < s := by rw [hs]; exact Nat.gcd_pos_of_pos_left _ (Nat.pos_of_ne_zero a.den_nz)
  have hg0 : 0 < g := by rw [hg]; exact Nat.gcd_pos_of_pos_left _ hs0
  have hgs : g ∣ s := by rw [hg]; exact Nat.gcd_dvd_left _ _
  have hsb : s ∣ b.den := by rw [hs]; exact Nat.gcd_dvd_right _ _
  have hgb : g ∣ b.den := Nat.dvd_trans hgs hsb
  have e : a.den / s * (b.den / g) = a.den / s * b.den / g := (Nat.mul_div_assoc _ hgb).symm
  rw [e]
  show (Rat.add a b).num = _ ∧ (Rat.add a b).den = _
  unfold Rat.add
  simp only [← hs]
  split
  · rename_i h1
    have : g = 1 := by rw [hg, h1]; exact Nat.gcd_one_left _
    subst this
    dsimp only
    rw [ht, h1]
    simp
  · rename_i h1
    simp only [Rat.maybeNormalize_eq]
    have hg2 : (a.num * ((b.den / s : Nat) : Int) + b.num * ((a.den / s : Nat) : Int)).natAbs.gcd s = g := by rw [hg, ← ht, Nat.gcd_comm]
    have hd : (g : Int) ∣ tp := by
      rw [hg]
      exact Int.ofNat_dvd_left.mpr (Nat.gcd_dvd_right _ _)
    constructor
    · rw [Int.divExact_eq_tdiv, hg2, ← ht, Int.tdiv_eq_ediv_of_dvd hd]
    · rw [hg2]
theorem mul_parts (a b : Rat) : (a * b).num = (Rat.divInt a.num (b.den : Int)).num * (Rat.divInt b.num (a.den : Int)).num ∧ (a * b).den = (Rat.divInt a.num (b.den : Int)).den * (Rat.divInt b.num (a.den : Int)).den := by
  show (Rat.mul a b).num = _ ∧ (Rat.mul a b).den = _
  have ha : (a.den : Int) ≠ 0 := by have := a.den_nz; omega
  have hb : (b.den : Int) ≠ 0 := by have := b.den_nz; omega
  rw [Rat.num_divInt, Rat.num_divInt, Rat.den_divInt, Rat.den_divInt, if_neg ha, if_neg hb]
  have e1 : ((b.den : Nat) : Int).sign = 1 := Int.sign_eq_one_of_pos (by have := b.den_nz; omega)
  have e2 : ((a.den : Nat) : Int).sign = 1 := Int.sign_eq_one_of_pos (by have := a.den_nz; omega)
  rw [e1, e2, Int.one_mul, Int.one_mul]
  unfold Rat.mul
  dsimp only
  have g1 : Int.gcd ((b.den : Nat) : Int) a.num = a.num.natAbs.gcd b.den := by rw [Int.gcd_comm]; rfl
  have g2 : Int.gcd ((a.den : Nat) : Int) b.num = b.num.natAbs.gcd a.den := by rw [Int.gcd_comm]; rfl
  rw [g1, g2]
  constructor
  · rw [Int.divExact_eq_tdiv, Int.divExact_eq_tdiv, Int.tdiv_eq_ediv_of_dvd (Int.ofNat_dvd_left.mpr (Nat.gcd_dvd_left _ _)), Int.tdiv_eq_ediv_of_dvd (Int.ofNat_dvd_left.mpr (Nat.gcd_dvd_left _ _))]
  · rw [Nat.mul_comm]; rfl
theorem mk_div (n : Int) (d : Int) (hd : d ≠ 0) : Rat.divInt n d = (n : Rat) / (d : Rat) := Rat.divInt_eq_div n d
theorem div_inv (b : Rat) : Rat.divInt (b.den : Int) b.num = b⁻¹ := (Rat.inv_def b).symm
theorem less_iff (a b : Rat) : (a.num * (b.den : Int) < b.num * (a.den : Int)) ↔ a < b := (Rat.lt_iff a b).symm
theorem lowest (q : Rat) : Int.gcd q.num (q.den : Int) = 1 := q.reduced
theorem den_pos (q : Rat) : (1 : Int) ≤ (q.den : Int) := by have := q.den_nz; omega
theorem cross (t b : Int) (hb : b ≠ 0) : (Rat.divInt t b).num * b = t * ((Rat.divInt t b).den : Int) := by
  have h := Rat.num_divInt_den (Rat.divInt t b)
  exact (Rat.divInt_eq_divInt_iff (by have := (Rat.divInt t b).den_nz; omega) hb).mp h
theorem num_le (t : Int) {b : Int} (hb : b ≠ 0) : (Rat.divInt t b).num.natAbs ≤ t.natAbs := by
  have h := cross t b hb
  have h2 := Fm.den_pos (Rat.divInt t b)
  rw [← fr_num hb]
  have hg : (0 : Int) < ((Int.gcd t b : Nat) : Int) := by have := gcd_pos_right (a := t) hb; omega
  obtain ⟨k, hk⟩ : ((Int.gcd t b : Nat) : Int) ∣ t := Int.gcd_dvd_left t b
  generalize ((Int.gcd t b : Nat) : Int) = g at hg hk
  subst hk
  have le : k.natAbs ≤ (g * k).natAbs := by
    rw [Int.natAbs_mul]
    exact Nat.le_mul_of_pos_left _ (by omega)
  split
  · rw [show g * k = (-g) * (-k) by grind, Int.mul_fdiv_cancel_left _ (by omega)]
    rw [show (-g) * (-k) = g * k by grind]
    omega
  · rw [Int.mul_fdiv_cancel_left _ (by omega)]
    exact le
theorem den_le (t : Int) {b : Int} (hb : b ≠ 0) : (Rat.divInt t b).den ≤ b.natAbs := by
  rw [Rat.den_divInt, if_neg hb]
  exact Nat.div_le_self _ _
theorem num_eq (q : Rat) : (q.num : Rat) = q * (q.den : Rat) := by
  have h := Rat.num_divInt_den q
  rw [Rat.divInt_eq_div] at h
  have hd : ((q.den : Int) : Rat) ≠ 0 := by
    have := q.den_nz
    intro z
    rw [Rat.intCast_natCast] at z
    exact this (by simpa using z)
  rw [Rat.intCast_natCast] at h hd
  have h2 := Rat.div_mul_cancel (a := (q.num : Rat)) hd
  rw [h] at h2
  exact h2.symm
theorem fr_pos {t b : Int} (hb : 0 < b) : t / ((Int.gcd t b : Nat) : Int) = (Rat.divInt t b).num ∧ b / ((Int.gcd t b : Nat) : Int) = ((Rat.divInt t b).den : Int) := by
  have h1 := fr_num (t := t) (b := b) (by omega)
  have h2 := fr_den (t := t) (b := b) (by omega)
  rw [if_neg (by omega), Int.fdiv_eq_ediv_of_nonneg _ (by omega)] at h1 h2
  exact ⟨h1, h2⟩
theorem eq_divInt {q : Rat} {n m : Int} (hm : m ≠ 0) (h : q * (m : Rat) = (n : Rat)) : q = Rat.divInt n m := by
  rw [Rat.divInt_eq_div, ← h]
  have : (m : Rat) ≠ 0 := by simpa using hm
  exact (Rat.mul_div_cancel this).symm
theorem size_of {q : Rat} {n m : Int} (hm : m ≠ 0) (h : q * (m : Rat) = (n : Rat)) : q.num.natAbs ≤ n.natAbs ∧ q.den ≤ m.natAbs := by
  rw [eq_divInt hm h]
  exact ⟨num_le n hm, den_le n hm⟩
structure Sz (N : Nat) (q : Rat) : Prop where
  n : q.num.natAbs ≤ N
  d : q.den ≤ N
theorem Sz.mono {M N : Nat} {q : Rat} (h : Sz M q) (l : M ≤ N) : Sz N q := ⟨Nat.le_trans h.n l, Nat.le_trans h.d l⟩
theorem Sz.neg {N : Nat} {q : Rat} (h : Sz N q) : Sz N (-q) := ⟨by show (-q.num).natAbs ≤ N; rw [Int.natAbs_neg]; exact h.n, h.d⟩
theorem sz_cross (a b : Rat) (f : Rat) (n : Int) (h : f * ((a.den : Int) * (b.den : Int) : Int) = (n : Rat)) {M N : Nat} (ha : Sz M a) (hb : Sz N b) (hn : n.natAbs ≤ 2 * (M * N)) : Sz (2 * (M * N)) f := by
  have m0 : (a.den : Int) * (b.den : Int) ≠ 0 := Int.mul_ne_zero (by have := a.den_nz; omega) (by have := b.den_nz; omega)
  obtain ⟨h1, h2⟩ := size_of m0 h
  refine ⟨Nat.le_trans h1 hn, Nat.le_trans h2 ?_⟩
  rw [Int.natAbs_mul]
  have := Nat.mul_le_mul ha.d hb.d
  simp only [Int.natAbs_natCast]
  omega
theorem Sz.add {a b : Rat} {M N : Nat} (ha : Sz M a) (hb : Sz N b) : Sz (2 * (M * N)) (a + b) := by
  refine sz_cross a b _ (a.num * (b.den : Int) + b.num * (a.den : Int)) ?_ ha hb ?_
  · rw [Rat.intCast_mul, Rat.intCast_add, Rat.intCast_mul, Rat.intCast_mul, Rat.intCast_natCast, Rat.intCast_natCast, num_eq a, num_eq b]
    grind
  · have h1 := Nat.mul_le_mul ha.n hb.d
    have h2 := Nat.mul_le_mul hb.n ha.d
    have h3 := Int.natAbs_add_le (a.num * (b.den : Int)) (b.num * (a.den : Int))
    rw [Int.natAbs_mul, Int.natAbs_mul, Int.natAbs_natCast, Int.natAbs_natCast] at h3
    rw [Nat.mul_comm N M] at h2
    omega
theorem Sz.sub {a b : Rat} {M N : Nat} (ha : Sz M a) (hb : Sz N b) : Sz (2 * (M * N)) (a - b) := by
  rw [Rat.sub_eq_add_neg]
  exact ha.add hb.neg
theorem Sz.mul {a b : Rat} {M N : Nat} (ha : Sz M a) (hb : Sz N b) : Sz (2 * (M * N)) (a * b) := by
  refine sz_cross a b _ (a.num * b.num) ?_ ha hb ?_
  · rw [Rat.intCast_mul, Rat.intCast_mul, Rat.intCast_natCast, Rat.intCast_natCast, num_eq a, num_eq b]
    grind
  · have h1 := Nat.mul_le_mul ha.n hb.n
    rw [Int.natAbs_mul]
    omega
end Fm
namespace Fm
theorem den_dvd (t : Int) {b : Int} (hb : b ≠ 0) : (Rat.divInt t b).den ∣ b.natAbs := by
  have h := congrArg Int.natAbs (cross t b hb)
  rw [Int.natAbs_mul, Int.natAbs_mul] at h
  have h2 : (Rat.divInt t b).den ∣ (Rat.divInt t b).num.natAbs * b.natAbs := ⟨t.natAbs, by rw [h, Nat.mul_comm]; simp⟩
  have h3 : Nat.Coprime (Rat.divInt t b).den (Rat.divInt t b).num.natAbs := Nat.Coprime.symm (Rat.divInt t b).reduced
  exact h3.dvd_of_dvd_mul_left h2
theorem den_of {q : Rat} {n : Int} {L : Nat} (hL : L ≠ 0) (h : q * (L : Rat) = (n : Rat)) : q.den ∣ L := by
  have e : q = Rat.divInt n (L : Int) := eq_divInt (by omega) (by rw [Rat.intCast_natCast]; exact h)
  rw [e]
  have := den_dvd n (b := (L : Int)) (by omega)
  simpa using this
theorem top_of {q : Rat} {L : Nat} (h : q.den ∣ L) : q * (L : Rat) = ((q.num * ((L / q.den : Nat) : Int) : Int) : Rat) := by
  obtain ⟨c, rfl⟩ := h
  have hd : 0 < q.den := Nat.pos_of_ne_zero q.den_nz
  rw [Nat.mul_div_cancel_left _ hd, Rat.intCast_mul, num_eq q, Rat.natCast_mul, Rat.intCast_natCast]
  grind
structure Cm (L B : Nat) (q : Rat) : Prop where
  d : q.den ∣ L
  lo : -(B : Rat) ≤ q
  hi : q ≤ (B : Rat)
theorem cast_le {a b : Nat} (h : a ≤ b) : (a : Rat) ≤ (b : Rat) := by
  rw [← Rat.intCast_natCast, ← Rat.intCast_natCast]
  exact Rat.intCast_le_intCast.mpr (by omega)
theorem cast_nn (a : Nat) : (0 : Rat) ≤ (a : Rat) := cast_le (Nat.zero_le a)
theorem Cm.mono {L B L' B' : Nat} {q : Rat} (h : Cm L B q) (hl : L ∣ L') (hb : B ≤ B') : Cm L' B' q := by
  have := cast_le hb
  exact ⟨Nat.dvd_trans h.d hl, by have := h.lo; grind, by have := h.hi; grind⟩
theorem Cm.neg {L B : Nat} {q : Rat} (h : Cm L B q) : Cm L B (-q) := ⟨h.d, by have := h.hi; grind, by have := h.lo; grind⟩
theorem Cm.add {L B C : Nat} {p q : Rat} (hp : Cm L B p) (hq : Cm L C q) : Cm L (B + C) (p + q) := by
  refine ⟨?_, ?_, ?_⟩
  · by_cases hL : L = 0
    · rw [hL]; exact Nat.dvd_zero _
    · refine den_of hL (n := p.num * ((L / p.den : Nat) : Int) + q.num * ((L / q.den : Nat) : Int)) ?_
      rw [Rat.intCast_add, ← top_of hp.d, ← top_of hq.d]
      grind
  · rw [Rat.natCast_add]; have := hp.lo; have := hq.lo; grind
  · rw [Rat.natCast_add]; have := hp.hi; have := hq.hi; grind
theorem Cm.sub {L B C : Nat} {p q : Rat} (hp : Cm L B p) (hq : Cm L C q) : Cm L (B + C) (p - q) := by
  rw [Rat.sub_eq_add_neg]; exact hp.add hq.neg
theorem mul_bd {a b B C : Rat} (h1 : -B ≤ a) (h2 : a ≤ B) (h3 : -C ≤ b) (h4 : b ≤ C) : a * b ≤ B * C ∧ -(B * C) ≤ a * b := by
  have k1 : 0 ≤ (B - a) * (C + b) := Rat.mul_nonneg (by grind) (by grind)
  have k2 : 0 ≤ (B + a) * (C - b) := Rat.mul_nonneg (by grind) (by grind)
  have k3 : 0 ≤ (B - a) * (C - b) := Rat.mul_nonneg (by grind) (by grind)
  have k4 : 0 ≤ (B + a) * (C + b) := Rat.mul_nonneg (by grind) (by grind)
  constructor <;> grind
theorem Cm.mul {L B M C : Nat} {p q : Rat} (hp : Cm L B p) (hq : Cm M C q) : Cm (L * M) (B * C) (p * q) := by
  refine ⟨?_, ?_, ?_⟩
  · by_cases hL : L * M = 0
    · rw [hL]; exact Nat.dvd_zero _
    · refine den_of hL (n := (p.num * ((L / p.den : Nat) : Int)) * (q.num * ((M / q.den : Nat) : Int))) ?_
      rw [Rat.intCast_mul, ← top_of hp.d, ← top_of hq.d, Rat.natCast_mul]
      grind
  · rw [Rat.natCast_mul]; exact (mul_bd hp.lo hp.hi hq.lo hq.hi).2
  · rw [Rat.natCast_mul]; exact (mul_bd hp.lo hp.hi hq.lo hq.hi).1
theorem Cm.int {i : Int} {B : Nat} (h : i.natAbs ≤ B) : Cm 1 B (i : Rat) := by
  refine ⟨by simp, ?_, ?_⟩
  · rw [← Rat.intCast_natCast, ← Rat.intCast_neg]; exact Rat.intCast_le_intCast.mpr (by omega)
  · rw [← Rat.intCast_natCast]; exact Rat.intCast_le_intCast.mpr (by omega)
theorem Cm.zero {L B : Nat} : Cm L B 0 := by
  have := cast_nn B
  exact ⟨by simp, by grind, this⟩
theorem Cm.num {L B : Nat} {q : Rat} (h : Cm L B q) : q.num.natAbs ≤ B * q.den := by
  have hd : (0 : Rat) ≤ (q.den : Rat) := cast_nn _
  have e := num_eq q
  have h1 : (q.num : Rat) ≤ ((B * q.den : Nat) : Rat) := by
    rw [e, Rat.natCast_mul]; exact Rat.mul_le_mul_of_nonneg_right h.hi hd
  have h2 : -((B * q.den : Nat) : Rat) ≤ (q.num : Rat) := by
    rw [e, Rat.natCast_mul, ← Rat.neg_mul]; exact Rat.mul_le_mul_of_nonneg_right h.lo hd
  rw [← Rat.intCast_natCast] at h1 h2
  rw [← Rat.intCast_neg] at h2
  have h3 := Rat.intCast_le_intCast.mp h1
  have h4 := Rat.intCast_le_intCast.mp h2
  omega
theorem Cm.den {L B : Nat} {q : Rat} (h : Cm L B q) (hL : 0 < L) : q.den ≤ L := Nat.le_of_dvd hL h.d
theorem Cm.sz {L B : Nat} {q : Rat} (h : Cm L B q) (hL : 0 < L) : Sz ((B + 1) * L) q := by
  have h1 := h.num
  have h2 := h.den hL
  have h3 : B * q.den ≤ B * L := Nat.mul_le_mul_left _ h2
  have h4 : (B + 1) * L = B * L + L := by rw [Nat.add_mul, Nat.one_mul]
  exact ⟨by omega, by omega⟩
theorem Cm.of {q : Rat} {L B : Nat} (hd : q.den ∣ L) (hn : q.num.natAbs ≤ B * q.den) : Cm L B q := by
  have hp : (0 : Rat) < (q.den : Rat) := by
    rw [← Rat.intCast_natCast]; exact Rat.intCast_pos.mpr (by have := q.den_nz; omega)
  have e := num_eq q
  have h1 : (q.num : Rat) ≤ (B : Rat) * (q.den : Rat) := by
    rw [← Rat.natCast_mul, ← Rat.intCast_natCast]; exact Rat.intCast_le_intCast.mpr (by omega)
  have h2 : -((B : Rat) * (q.den : Rat)) ≤ (q.num : Rat) := by
    rw [← Rat.natCast_mul, ← Rat.intCast_natCast, ← Rat.intCast_neg]; exact Rat.intCast_le_intCast.mpr (by omega)
  rw [e] at h1 h2
  refine ⟨hd, ?_, ?_⟩
  · refine Rat.not_lt.mp fun c => ?_
    have := Rat.mul_lt_mul_of_pos_right c hp
    rw [Rat.neg_mul] at this
    grind
  · refine Rat.not_lt.mp fun c => ?_
    have := Rat.mul_lt_mul_of_pos_right c hp
    grind
theorem Cm.div {t : Int} {b L B : Nat} (hb : 0 < b) (hd : b ∣ L) (ht : t.natAbs ≤ B * b) : Cm L B (Rat.divInt t (b : Int)) := by
  have h1 := den_dvd t (b := (b : Int)) (by omega)
  have hc := cross t (b : Int) (by omega)
  refine Cm.of (Nat.dvd_trans (by simpa using h1) hd) ?_
  have h2 : (Rat.divInt t (b : Int)).num.natAbs * b = t.natAbs * (Rat.divInt t (b : Int)).den := by
    have := congrArg Int.natAbs hc
    rw [Int.natAbs_mul, Int.natAbs_mul] at this
    simpa using this
  refine Nat.le_of_mul_le_mul_right ?_ hb
  rw [h2]
  calc t.natAbs * (Rat.divInt t (b : Int)).den ≤ (B * b) * (Rat.divInt t (b : Int)).den := Nat.mul_le_mul_right _ ht
    _ = B * (Rat.divInt t (b : Int)).den * b := by rw [Nat.mul_assoc, Nat.mul_comm b, Nat.mul_assoc]
noncomputable def Dg (n : Nat) (q : Rat) : Prop := Sz (10 ^ n) q
theorem ten_le {a b : Nat} (h : a ≤ b) : 10 ^ a ≤ 10 ^ b := Nat.pow_le_pow_right (by decide) h
theorem ten_two (a b : Nat) : 2 * (10 ^ a * 10 ^ b) ≤ 10 ^ (a + b + 1) := by
  rw [Nat.pow_succ, Nat.pow_add]
  omega
theorem Dg.mono {a b : Nat} {q : Rat} (h : Dg a q) (l : a ≤ b) : Dg b q := Sz.mono h (ten_le l)
theorem Dg.add {a b : Nat} {p q : Rat} (hp : Dg a p) (hq : Dg b q) : Dg (a + b + 1) (p + q) := (Sz.add hp hq).mono (ten_two a b)
theorem Dg.sub {a b : Nat} {p q : Rat} (hp : Dg a p) (hq : Dg b q) : Dg (a + b + 1) (p - q) := (Sz.sub hp hq).mono (ten_two a b)
theorem Dg.mul {a b : Nat} {p q : Rat} (hp : Dg a p) (hq : Dg b q) : Dg (a + b + 1) (p * q) := (Sz.mul hp hq).mono (ten_two a b)
theorem Dg.of {n : Nat} {t b : Int} (hb : b ≠ 0) (h1 : t.natAbs ≤ 10 ^ n) (h2 : b.natAbs ≤ 10 ^ n) : Dg n (Rat.divInt t b) := ⟨Nat.le_trans (num_le t hb) h1, Nat.le_trans (den_le t hb) h2⟩
theorem Dg.one {n : Nat} : Dg n 1 := ⟨Nat.pow_pos (n := n) (by decide), Nat.pow_pos (n := n) (by decide)⟩
theorem Dg.int {n : Nat} {i : Int} (h : i.natAbs ≤ 10 ^ n) : Dg n (i : Rat) := ⟨h, Nat.pow_pos (n := n) (by decide)⟩
noncomputable def absR (q : Rat) : Rat := ⟨(q.num.natAbs : Int), q.den, q.den_nz, by simpa using q.reduced⟩
theorem absR_num (q : Rat) : (absR q).num = ((q.num.natAbs : Nat) : Int) := rfl
theorem absR_pos {q : Rat} (h : 0 ≤ q) : absR q = q := by
  have := Rat.num_nonneg.mpr h
  exact Rat.ext (by rw [absR_num]; omega) rfl
theorem absR_neg {q : Rat} (h : q ≤ 0) : absR q = -q := by
  have h1 : 0 ≤ -q := by grind
  have := Rat.num_nonneg.mpr h1
  exact Rat.ext (by rw [absR_num]; show _ = -q.num; have e : (-q).num = -q.num := rfl; omega) rfl
theorem absR_nn (q : Rat) : 0 ≤ absR q := Rat.num_nonneg.mp (by rw [absR_num]; omega)
theorem absR_cases (q : Rat) : (0 ≤ q ∧ absR q = q) ∨ (q ≤ 0 ∧ absR q = -q) := by
  rcases Rat.le_total (a := 0) (b := q) with h | h
  · exact .inl ⟨h, absR_pos h⟩
  · exact .inr ⟨h, absR_neg h⟩
theorem Cm.abs {L B : Nat} {q : Rat} (h : Cm L B q) : Cm L B (absR q) := by
  rcases absR_cases q with ⟨_, e⟩ | ⟨_, e⟩
  · rw [e]; exact h
  · rw [e]; exact h.neg
theorem Dg.abs {n : Nat} {q : Rat} (h : Dg n q) : Dg n (absR q) := ⟨by rw [absR_num]; exact h.n, h.d⟩
theorem Cm.dg {L B l b : Nat} {q : Rat} (h : Cm L B q) (hL : 0 < L) (h1 : L ≤ 10 ^ l) (h2 : B ≤ 10 ^ b) : Dg (b + l + 1) q := by
  refine (h.sz hL).mono ?_
  have e : (B + 1) * L ≤ (10 ^ b + 10 ^ b) * 10 ^ l := Nat.mul_le_mul (by have := Nat.pow_pos (n := b) (show 0 < 10 by decide); omega) h1
  have := ten_two b l
  rw [Nat.add_mul (10 ^ b)] at e
  omega
end Fm
namespace Dl
open PySem PySem.Spec PyProof.Rows L2 Lx
inductive Sl where
  | dat (d : PyData)
  | own (ds : List PyData)
    | exc (C : Addr)
    | two (xs ys : List PyData)
    | fz (as : List Addr) (d : PyData)
noncomputable abbrev DEn := List (Option Sl)
noncomputable def slot : DEn → Nat → Option Sl
  | [], _ => none
  | x :: _, 0 => x
  | _ :: xs, n + 1 => slot xs n
noncomputable def put (s : Option Sl) : Nat → DEn → DEn
  | _, [] => []
  | 0, _ :: xs => s :: xs
  | n + 1, x :: xs => x :: put s n xs
theorem slot_put (s : Option Sl) : ∀ (i j : Nat) (δ : DEn), slot (put s i δ) j = if j = i ∧ i < δ.length then s else slot δ j
  | i, j, [] => by cases i <;> simp [put, slot]
  | 0, 0, x :: xs => by simp [put, slot]
  | 0, j + 1, x :: xs => by simp [put, slot]
  | i + 1, 0, x :: xs => by simp [put, slot]
  | i + 1, j + 1, x :: xs => by
    have := slot_put s i j xs
    simp only [put, slot, this, List.length_cons]
    simp
theorem put_len (s : Option Sl) : ∀ (i : Nat) (δ : DEn), (put s i δ).length = δ.length
  | i, [] => by cases i <;> rfl
  | 0, x :: xs => rfl
  | i + 1, x :: xs => by simp [put, put_len s i xs]
theorem sqT_same {K : PySem.W.Frag} {H H' : Hp} {a : Addr} {xs : List V} (e : Same H H') (h : SqT K H a xs) : SqT K H' a xs := by
  rcases h with (h | ⟨o, h⟩) | h
  · exact .inl (.inl (e _ _ h))
  · exact .inl (.inr ⟨o, e _ _ h⟩)
  · exact .inr h
mutual
theorem dv_same {K : PySem.W.Frag} {H H' : Hp} (s : Same H H') : ∀ {x : V} {d : PyData}, DV K H x d → DV K H' x d
  | _, _, .non => .non
  | _, _, .bl b => .bl b
  | _, _, .int i => .int i
  | _, _, .str x => .str x
  | _, _, .tup h hs => .tup (sqT_same s h) (dvs_same s hs)
  | _, _, .lst h hs => .lst (s.seq h) (dvs_same s hs)
  | _, _, .dct h => .dct (s _ _ h)
theorem dvs_same {K : PySem.W.Frag} {H H' : Hp} (s : Same H H') : ∀ {xs : List V} {ds : List PyData}, DVs K H xs ds → DVs K H' xs ds
  | _, _, .nil => .nil
  | _, _, .cons h t => .cons (dv_same s h) (dvs_same s t)
end
mutual
noncomputable def flatD : PyData → Bool
  | .none => true
  | .bool _ => true
  | .int _ => true
  | .str _ => true
  | .list _ => false
  | .tuple ds => flatDs ds
  | .dict _ => true
noncomputable def flatDs : List PyData → Bool
  | [] => true
  | d :: ds => flatD d && flatDs ds
end
noncomputable def Sub (G H : Hp) : Prop := ∀ b, G b = H b ∨ (G b = none ∧ ∃ xs, H b = some (.lst xs))
theorem Sub.same {G H : Hp} (s : Sub G H) : Same G H := fun b o e => by
  rcases s b with h | ⟨h, _⟩
  · rw [← h]; exact e
  · rw [h] at e; cases e
theorem Sub.refl (H : Hp) : Sub H H := fun _ => .inl rfl
theorem Sub.other {G H : Hp} (s : Sub G H) {b : Addr} {o : HO} (h : H b = some o) (n : ∀ xs, o ≠ .lst xs) : G b = some o := by
  rcases s b with e | ⟨_, xs, e⟩
  · rw [e]; exact h
  · rw [h] at e; cases e; exact absurd rfl (n xs)
mutual
theorem dv_flat {K : PySem.W.Frag} {G H : Hp} (s : ∀ b o, H b = some o → (∀ xs, o ≠ .lst xs) → G b = some o) : ∀ {x : V} {d : PyData}, DV K H x d → flatD d = true → DV K G x d
  | _, _, .non, _ => .non
  | _, _, .bl b, _ => .bl b
  | _, _, .int i, _ => .int i
  | _, _, .str x, _ => .str x
  | _, _, .tup h hs, f => .tup (by
      rcases h with (h | ⟨o, h⟩) | h
      · exact .inl (.inl (s _ _ h (by intro xs z; cases z)))
      · exact .inl (.inr ⟨o, s _ _ h (by intro xs z; cases z)⟩)
      · exact .inr h) (dvs_flat s hs f)
  | _, _, .lst _ _, f => by cases f
  | _, _, .dct h, _ => .dct (s _ _ h (by intro xs z; cases z))
theorem dvs_flat {K : PySem.W.Frag} {G H : Hp} (s : ∀ b o, H b = some o → (∀ xs, o ≠ .lst xs) → G b = some o) : ∀ {xs : List V} {ds : List PyData}, DVs K H xs ds → flatDs ds = true → DVs K G xs ds
  | _, _, .nil, _ => .nil
  | _, _, .cons h t, f => by
    simp only [flatDs, Bool.and_eq_true] at f
    exact .cons (dv_flat s h f.1) (dvs_flat s t f.2)
end
end Dl
namespace Lx
open PySem PySem.Spec PyProof.Rows L2
theorem DVs.len {K : PySem.W.Frag} {H : Hp} : ∀ {xs : List V} {ds : List PyData}, DVs K H xs ds → xs.length = ds.length
  | _, _, .nil => rfl
  | _, _, .cons _ t => congrArg (· + 1) (DVs.len t)
theorem DVs.at {K : PySem.W.Frag} {H : Hp} : ∀ {xs : List V} {ds : List PyData} {i : Nat} {d : PyData}, DVs K H xs ds → ds[i]? = some d → ∃ x, xs[i]? = some x ∧ DV K H x d
  | _, _, _, _, .nil, e => by simp at e
  | _, _, 0, _, .cons h _, e => by
    simp at e
    subst e
    exact ⟨_, rfl, h⟩
  | _, _, i + 1, _, .cons _ t, e => by
    obtain ⟨x, h1, h2⟩ := DVs.at (i := i) t (by simpa using e)
    exact ⟨x, by simpa using h1, h2⟩
theorem DVs.append {K : PySem.W.Frag} {H : Hp} : ∀ {xs ys : List V} {ds es : List PyData}, DVs K H xs ds → DVs K H ys es → DVs K H (xs ++ ys) (ds ++ es)
  | _, _, _, _, .nil, h => h
  | _, _, _, _, .cons r t, h => .cons r (DVs.append t h)
theorem DVs.take {K : PySem.W.Frag} {H : Hp} : ∀ {xs : List V} {ds : List PyData} (n : Nat), DVs K H xs ds → DVs K H (xs.take n) (ds.take n)
  | _, _, 0, _ => by simp only [List.take_zero]; exact .nil
  | _, _, _ + 1, .nil => .nil
  | _, _, n + 1, .cons r t => .cons r (DVs.take n t)
theorem DVs.drop {K : PySem.W.Frag} {H : Hp} : ∀ {xs : List V} {ds : List PyData} (n : Nat), DVs K H xs ds → DVs K H (xs.drop n) (ds.drop n)
  | _, _, 0, h => by simp only [List.drop_zero]; exact h
  | _, _, _ + 1, .nil => .nil
  | _, _, n + 1, .cons _ t => DVs.drop n t
theorem DVs.set {K : PySem.W.Frag} {H : Hp} {x : V} {d : PyData} (r : DV K H x d) : ∀ {xs : List V} {ds : List PyData} (i : Nat), DVs K H xs ds → DVs K H (xs.set i x) (ds.set i d)
  | _, _, _, .nil => .nil
  | _, _, 0, .cons _ t => .cons r t
  | _, _, i + 1, .cons q t => .cons q (DVs.set r i t)
end Lx
namespace Dl
open PySem PySem.Spec PyProof.Rows L2 Lx
inductive FzIs (K : PySem.W.Frag) (G : Hp) : V → List Addr → PyData → Prop
  | pair {t a b : Addr} {vs ws : List V} {xs ys : List PyData} : SqT K G t [.ref a, .ref b] → a ≠ b → G a = some (.lst vs) → G b = some (.lst ws) → DVs K G vs xs → DVs K G ws ys → FzIs K G (.ref t) [a, b] (.tuple [.list xs, .list ys])
  | one {a : Addr} {vs : List V} {ds : List PyData} : G a = some (.lst vs) → DVs K G vs ds → FzIs K G (.ref a) [a] (.list ds)
theorem FzIs.same {K : PySem.W.Frag} {G G' : Hp} {v : V} {as : List Addr} {d : PyData} (s : Same G G') (h : FzIs K G v as d) : FzIs K G' v as d := by
  cases h with
  | pair h1 h2 h3 h4 h5 h6 => exact .pair (sqT_same s h1) h2 (s _ _ h3) (s _ _ h4) (dvs_same s h5) (dvs_same s h6)
  | one h1 h2 => exact .one (s _ _ h1) (dvs_same s h2)
noncomputable def SlIs (K : PySem.W.Frag) (G H : Hp) (v : V) : Sl → Prop
  | .dat d => DV K G v d
  | .own ds => ∃ a vs, v = .ref a ∧ G a = none ∧ H a = some (.lst vs) ∧ DVs K G vs ds
  | .exc C => ∃ x, v = .ref x ∧ G x = some (.ext (IsExc x C))
  | .two _ _ => False
  | .fz as d => FzIs K G v as d
structure Sees (K : PySem.W.Frag) (H₀ G : Hp) (δ : DEn) (σ : L2.St) (H : Hp) : Prop where
  old : Same H₀ G
  sub : Sub G H
  len : δ.length ≤ σ.length
  has : ∀ i s, slot δ i = some s → ∃ v, σ[i]? = some (some v) ∧ SlIs K G H v s
  sep : ∀ i j xs ys a, slot δ i = some (.own xs) → slot δ j = some (.own ys) → σ[i]? = some (some (.ref a)) → σ[j]? = some (some (.ref a)) → i = j
structure Ext (G H G' H' : Hp) : Prop where
  g : Same G G'
  h : Same H H'
  s : Sub G' H'
  n : ∀ b o, G' b = some o → G b = some o ∨ H b = none
theorem Ext.refl {G H : Hp} (s : Sub G H) : Ext G H G H := ⟨Same.refl _, Same.refl _, s, fun _ _ h => .inl h⟩
theorem Ext.trans {G H G1 H1 G2 H2 : Hp} (a : Ext G H G1 H1) (b : Ext G1 H1 G2 H2) : Ext G H G2 H2 :=
  ⟨a.g.trans b.g, a.h.trans b.h, b.s, fun c o h => by
    rcases b.n c o h with z | z
    · exact a.n c o z
    · exact .inr (a.h.free z)⟩
theorem Ext.keep {G H G' H' : Hp} (e : Ext G H G' H') {a : Addr} (hg : G a = none) {o : HO} (hh : H a = some o) : G' a = none := by
  cases q : G' a with
  | none => rfl
  | some u =>
    rcases e.n a u q with z | z
    · rw [hg] at z; cases z
    · rw [hh] at z; cases z
section
variable {K : PySem.W.Frag} {H₀ G H G' H' : Hp} {δ : DEn} {σ : L2.St}
theorem SlIs.ext {v : V} {s : Sl} (e : Ext G H G' H') (h : SlIs K G H v s) : SlIs K G' H' v s := by
  cases s with
  | dat d => exact dv_same e.g h
  | own ds =>
    obtain ⟨a, vs, rfl, hg, hh, hd⟩ := h
    exact ⟨a, vs, rfl, e.keep hg hh, e.h _ _ hh, dvs_same e.g hd⟩
  | two xs ys => exact h.elim
  | fz as d => exact FzIs.same e.g h
  | exc C =>
    obtain ⟨x, rfl, hx⟩ := h
    exact ⟨x, rfl, e.g _ _ hx⟩
theorem Sees.ext (S : Sees K H₀ G δ σ H) (e : Ext G H G' H') : Sees K H₀ G' δ σ H' :=
  ⟨S.old.trans e.g, e.s, S.len, fun i s h => by
    obtain ⟨v, h1, h2⟩ := S.has i s h
    exact ⟨v, h1, h2.ext e⟩, S.sep⟩
theorem Sees.refl (S : Sees K H₀ G δ σ H) : Ext G H G H := .refl S.sub
theorem Sees.oldH (S : Sees K H₀ G δ σ H) : Same H₀ H := S.old.trans S.sub.same
theorem slot_lt : ∀ {δ : DEn} {i : Nat} {s : Sl}, slot δ i = some s → i < δ.length
  | [], _, _, h => by cases h
  | _ :: _, 0, _, _ => Nat.zero_lt_succ _
  | _ :: xs, i + 1, s, h => Nat.succ_lt_succ (slot_lt (δ := xs) (i := i) (s := s) h)
theorem Sees.setS {v : V} {s : Sl} (S : Sees K H₀ G δ σ H) (i : Nat) (h : SlIs K G H v s) (hs : ∀ ds j es a, s = .own ds → slot δ j = some (.own es) → σ[j]? = some (some (.ref a)) → v ≠ .ref a) : Sees K H₀ G (put (some s) i δ) (σ.set i (some v)) H := by
  have look : ∀ j u, slot (put (some s) i δ) j = some u → (j = i ∧ u = s ∧ (σ.set i (some v))[j]? = some (some v)) ∨ (j ≠ i ∧ slot δ j = some u ∧ (σ.set i (some v))[j]? = σ[j]?) := fun j u hj => by
    rw [slot_put] at hj
    split at hj
    · rename_i hc
      obtain ⟨rfl, hl⟩ := hc
      cases hj
      exact .inl ⟨rfl, rfl, by rw [List.getElem?_set_self (Nat.lt_of_lt_of_le hl S.len)]⟩
    · rename_i hc
      have hji : j ≠ i := fun z => hc ⟨z, by rw [← z]; exact slot_lt hj⟩
      exact .inr ⟨hji, hj, by rw [List.getElem?_set_ne (Ne.symm hji)]⟩
  refine ⟨S.old, S.sub, by rw [put_len, List.length_set]; exact S.len, fun j u hj => ?_, fun j k xs ys a hj hk e1 e2 => ?_⟩
  · rcases look j u hj with ⟨rfl, rfl, e⟩ | ⟨_, h1, e⟩
    · exact ⟨v, e, h⟩
    · rw [e]; exact S.has j u h1
  · rcases look j _ hj with ⟨rfl, z1, e3⟩ | ⟨n1, h1, e3⟩ <;> rcases look k _ hk with ⟨rfl, z2, e4⟩ | ⟨n2, h2, e4⟩
    · rfl
    · rw [e3] at e1; rw [e4] at e2
      cases e1
      exact absurd rfl (hs xs k ys a z1.symm h2 e2)
    · rw [e3] at e1; rw [e4] at e2
      cases e2
      exact absurd rfl (hs ys j xs a z2.symm h1 e1)
    · rw [e3] at e1; rw [e4] at e2
      exact S.sep j k xs ys a h1 h2 e1 e2
theorem Sees.setD {v : V} {d : PyData} (S : Sees K H₀ G δ σ H) (i : Nat) (h : DV K G v d) : Sees K H₀ G (put (some (.dat d)) i δ) (σ.set i (some v)) H :=
  S.setS i (s := .dat d) h fun _ _ _ _ z => nomatch z
theorem Sees.ownAt (S : Sees K H₀ G δ σ H) {i : Nat} {ds : List PyData} (h : slot δ i = some (.own ds)) : ∃ a vs, σ[i]? = some (some (.ref a)) ∧ G a = none ∧ H a = some (.lst vs) ∧ DVs K G vs ds := by
  obtain ⟨v, h1, a, vs, rfl, h2, h3, h4⟩ := S.has i _ h
  exact ⟨a, vs, h1, h2, h3, h4⟩
theorem Sees.setO {a : Addr} {vs : List V} {ds : List PyData} (S : Sees K H₀ G δ σ H) (e : Ext G H G' H') (i : Nat) (hn : H a = none) (hg : G' a = none) (hh : H' a = some (.lst vs)) (hd : DVs K G' vs ds) :
    Sees K H₀ G' (put (some (.own ds)) i δ) (σ.set i (some (.ref a))) H' :=
  (S.ext e).setS i (s := .own ds) ⟨a, vs, rfl, hg, hh, hd⟩ fun _ j es b _ h1 h2 z => by
    cases z
    obtain ⟨c, ws, q1, q2, q3, q4⟩ := S.ownAt h1
    rw [h2] at q1
    cases q1
    rw [hn] at q3; cases q3
theorem Sees.updO {i : Nat} {a : Addr} {ds es : List PyData} {vs : List V} (S : Sees K H₀ G δ σ H) (h : slot δ i = some (.own ds)) (ha : σ[i]? = some (some (.ref a))) (hd : DVs K G vs es) :
    Sees K H₀ G (put (some (.own es)) i δ) σ (upd H a (.lst vs)) := by
  obtain ⟨b, ws, q1, q2, q3, q4⟩ := S.ownAt h
  rw [ha] at q1
  cases q1
  have look : ∀ j u, slot (put (some (.own es)) i δ) j = some u → (j = i ∧ u = .own es) ∨ (j ≠ i ∧ slot δ j = some u) := fun j u hj => by
    rw [slot_put] at hj
    split at hj
    · rename_i hc
      cases hj
      exact .inl ⟨hc.1, rfl⟩
    · rename_i hc
      exact .inr ⟨fun z => hc ⟨z, by rw [← z]; exact slot_lt hj⟩, hj⟩
  refine ⟨S.old, fun c => ?_, by rw [put_len]; exact S.len, fun j u hj => ?_, fun j k xs ys c hj hk e1 e2 => ?_⟩
  · by_cases z : c = a
    · subst z
      exact .inr ⟨q2, vs, upd_same⟩
    · rw [upd_ne z]; exact S.sub c
  · rcases look j u hj with ⟨rfl, rfl⟩ | ⟨n1, h1⟩
    · exact ⟨_, ha, a, vs, rfl, q2, upd_same, hd⟩
    · obtain ⟨v, h2, h3⟩ := S.has j u h1
      refine ⟨v, h2, ?_⟩
      cases u with
      | dat d => exact h3
      | two xs ys => exact h3.elim
      | fz as d => exact h3
      | exc C => exact h3
      | own xs =>
        obtain ⟨c, ws, rfl, p1, p2, p3⟩ := h3
        refine ⟨c, ws, rfl, p1, ?_, p3⟩
        rw [upd_ne (fun z => ?_)]
        · exact p2
        · subst z
          exact n1 (S.sep j i xs ds c h1 h h2 ha)
  · rcases look j _ hj with ⟨rfl, _⟩ | ⟨n1, h1⟩ <;> rcases look k _ hk with ⟨rfl, _⟩ | ⟨n2, h2⟩
    · rfl
    · exact S.sep j k ds ys c h h2 e1 e2
    · exact S.sep j k xs ds c h1 h e1 e2
    · exact S.sep j k xs ys c h1 h2 e1 e2
theorem Sees.frz {i : Nat} {ds : List PyData} (S : Sees K H₀ G δ σ H) (h : slot δ i = some (.own ds)) : ∃ G', Same G G' ∧ Sees K H₀ G' (put (some (.dat (.list ds))) i δ) σ H := by
  obtain ⟨a, vs, q1, q2, q3, q4⟩ := S.ownAt h
  have sg : Same G (upd G a (.lst vs)) := fun b o e => by rw [upd_ne (ne_of_none e q2)]; exact e
  refine ⟨upd G a (.lst vs), sg, S.old.trans sg, fun b => ?_, by rw [put_len]; exact S.len, fun j u hj => ?_, fun j k xs ys c hj hk e1 e2 => ?_⟩
  · by_cases z : b = a
    · subst z
      exact .inl (by rw [upd_same, q3])
    · rw [upd_ne z]; exact S.sub b
  · rw [slot_put] at hj
    split at hj
    · rename_i hc
      cases hj
      exact ⟨_, by rw [hc.1]; exact q1, .lst (SqL.of upd_same) (dvs_same sg q4)⟩
    · rename_i hc
      have hji : j ≠ i := fun z => hc ⟨z, by rw [← z]; exact slot_lt hj⟩
      obtain ⟨v, h2, h3⟩ := S.has j u hj
      refine ⟨v, h2, ?_⟩
      cases u with
      | dat d => exact dv_same sg h3
      | two xs ys => exact h3.elim
      | fz as d => exact FzIs.same sg h3
      | exc C =>
        obtain ⟨x, rfl, hx⟩ := h3
        exact ⟨x, rfl, sg _ _ hx⟩
      | own xs =>
        obtain ⟨c, ws, rfl, p1, p2, p3⟩ := h3
        refine ⟨c, ws, rfl, ?_, p2, dvs_same sg p3⟩
        rw [upd_ne (fun z => ?_)]
        · exact p1
        · subst z
          exact hji (S.sep j i xs ds c hj h h2 q1)
  · have look : ∀ j u, slot (put (some (.dat (.list ds))) i δ) j = some (.own u) → slot δ j = some (.own u) := fun j u hj => by
      rw [slot_put] at hj
      split at hj
      · cases hj
      · exact hj
    exact S.sep j k xs ys c (look _ _ hj) (look _ _ hk) e1 e2
end
noncomputable abbrev DX := Addr → Prop
noncomputable abbrev DE := DX → DEn → (PyData → Prop) → Prop
noncomputable abbrev DL := DX → DEn → (List PyData → Prop) → Prop
noncomputable abbrev DT := DX → DEn → (Bool → Prop) → Prop
noncomputable def ExOk (H₀ : Hp) (E : XK) (ex : DX) : Prop := ∀ C H', Same H₀ H' → ex C → E (.ref C) none H'
section
variable (K : PySem.W.Frag) (H₀ : Hp) (E : XK)
noncomputable def EvD (te : TE) (de : DE) : Prop := ∀ ex δ σ G H Qd Q, ExOk H₀ E ex → Sees K H₀ G δ σ H → de ex δ Qd → (∀ v d G' H', Ext G H G' H' → DV K G' v d → Qd d → Q v H') → te σ H Q
noncomputable def BvD (te : TE) (de : DE) : Prop := ∀ ex δ σ G H Qd Q, ExOk H₀ E ex → Sees K H₀ G δ σ H → de ex δ Qd → (∀ v d G' H', Ext G H G' H' → DV K H' v d → Qd d → Q v H') → te σ H Q
noncomputable def LvD (te : TE) (dl : DL) : Prop := ∀ ex δ σ G H Qd Q, ExOk H₀ E ex → Sees K H₀ G δ σ H → dl ex δ Qd → (∀ a vs ds G' H', Ext G H G' H' → SqL K H' a vs → DVs K G' vs ds → Qd ds → Q (.ref a) H') → te σ H Q
noncomputable def OvD (te : TE) (dl : DL) : Prop := ∀ ex δ σ G H Qd Q, ExOk H₀ E ex → Sees K H₀ G δ σ H → dl ex δ Qd → (∀ a vs ds G' H', Ext G H G' H' → H a = none → G' a = none → H' a = some (.lst vs) → DVs K G' vs ds → Qd ds → Q (.ref a) H') → te σ H Q
noncomputable def TvD (tt : TT) (dt : DT) : Prop := ∀ ex δ σ G H Qd Q, ExOk H₀ E ex → Sees K H₀ G δ σ H → dt ex δ Qd → (∀ b G' H', Ext G H G' H' → Qd b → Q b H') → tt σ H Q
noncomputable def AvD (ta : TA) (dl : DL) : Prop := ∀ ex δ σ G H Qd Q, ExOk H₀ E ex → Sees K H₀ G δ σ H → dl ex δ Qd → (∀ vs ds G' H', Ext G H G' H' → DVs K H' vs ds → Qd ds → Q vs H') → ta σ H Q
noncomputable def AvE (ta : TA) (n : Nat) (dl : DL) : Prop := ∀ ex δ σ G H Qd Q, ExOk H₀ E ex → Sees K H₀ G δ σ H → dl ex δ Qd → (∀ vs ds G' H', Ext G H G' H' → DVs K G' vs ds → ds.length = n → Qd ds → Q vs H') → ta σ H Q
end
noncomputable def dVar (i : Nat) (_ex : DX) (δ : DEn) (Q : PyData → Prop) : Prop := match slot δ i with
  | some (.dat d) => Q d
  | _ => False
noncomputable def dBVar (i : Nat) (_ex : DX) (δ : DEn) (Q : PyData → Prop) : Prop := match slot δ i with
  | some (.dat d) => Q d
  | some (.own ds) => Q (.list ds)
  | _ => False
noncomputable def dLVar (i : Nat) (_ex : DX) (δ : DEn) (Q : List PyData → Prop) : Prop := match slot δ i with
  | some (.dat (.list ds)) => Q ds
  | some (.own ds) => Q ds
  | _ => False
noncomputable def dC (d : PyData) (_ex : DX) (_δ : DEn) (Q : PyData → Prop) : Prop := Q d
noncomputable def dFz (dl : DL) (ex : DX) (δ : DEn) (Q : PyData → Prop) : Prop := dl ex δ fun ds => Q (.list ds)
noncomputable def dAsL (de : DE) (ex : DX) (δ : DEn) (Q : List PyData → Prop) : Prop := de ex δ fun d => match d with
  | .list ds => Q ds
  | _ => False
noncomputable def dNil (_ex : DX) (_δ : DEn) (Q : List PyData → Prop) : Prop := Q []
noncomputable def dCons (de : DE) (dl : DL) (ex : DX) (δ : DEn) (Q : List PyData → Prop) : Prop := de ex δ fun d => dl ex δ fun ds => Q (d :: ds)
section
variable {K : PySem.W.Frag} {H₀ : Hp} {E : XK} {te : TE} {de : DE} {dl : DL} {ta : TA}
theorem bv_ev (h : EvD K H₀ E te de) : BvD K H₀ E te de := fun ex δ σ G H Qd Q hx S q k =>
  h ex δ σ G H Qd Q hx S q fun v d G' H' e hd => k v d G' H' e (dv_same e.s.same hd)
theorem ev_ov (h : OvD K H₀ E te dl) : EvD K H₀ E te (dFz dl) := fun ex δ σ G H Qd Q hx S q k =>
  h ex δ σ G H _ Q hx S q fun a vs ds G' H' e hn hg hh hd qd => by
    have sg : Same G' (upd G' a (.lst vs)) := fun b o z => by rw [upd_ne (ne_of_none z hg)]; exact z
    refine k (.ref a) (.list ds) (upd G' a (.lst vs)) H' ⟨e.g.trans sg, e.h, fun b => ?_, fun b o z => ?_⟩ (.lst (SqL.of upd_same) (dvs_same sg hd)) qd
    · by_cases w : b = a
      · subst w; exact .inl (by rw [upd_same, hh])
      · rw [upd_ne w]; exact e.s b
    · by_cases w : b = a
      · subst w; exact .inr hn
      · rw [upd_ne w] at z; exact e.n b o z
theorem lv_ov (h : OvD K H₀ E te dl) : LvD K H₀ E te dl := fun ex δ σ G H Qd Q hx S q k =>
  h ex δ σ G H _ Q hx S q fun a vs ds G' H' e hn hg hh hd qd => k a vs ds G' H' e (SqL.of hh) hd qd
theorem dv_list {G : Hp} {v : V} {ds : List PyData} (h : DV K G v (.list ds)) : ∃ a vs, v = .ref a ∧ SqL K G a vs ∧ DVs K G vs ds := by
  cases h with
  | lst h1 h2 => exact ⟨_, _, rfl, h1, h2⟩
theorem dv_tuple {G : Hp} {v : V} {ds : List PyData} (h : DV K G v (.tuple ds)) : ∃ a vs, v = .ref a ∧ SqT K G a vs ∧ DVs K G vs ds := by
  cases h with
  | tup h1 h2 => exact ⟨_, _, rfl, h1, h2⟩
theorem dv_int {G : Hp} {v : V} {i : Int} (h : DV K G v (.int i)) : v = .int i := by cases h; rfl
theorem dv_bl {G : Hp} {v : V} {i : Bool} (h : DV K G v (.bool i)) : v = .bl i := by cases h; rfl
theorem dv_str {G : Hp} {v : V} {i : Str} (h : DV K G v (.str i)) : v = .str i := by cases h; rfl
theorem lv_ev (h : EvD K H₀ E te de) : LvD K H₀ E te (dAsL de) := fun ex δ σ G H Qd Q hx S q k =>
  h ex δ σ G H _ Q hx S q fun v d G' H' e hd qd => by
    cases d with
    | list ds =>
      obtain ⟨a, vs, rfl, h1, h2⟩ := dv_list hd
      exact k a vs ds G' H' e (e.s.same.seq h1) h2 qd
    | _ => exact qd.elim
theorem ev_var (i : Nat) : EvD K H₀ E (tVar i) (dVar i) := fun ex δ σ G H Qd Q hx S q k => by
  unfold dVar at q
  split at q
  · rename_i d hs
    obtain ⟨v, h1, h2⟩ := S.has i _ hs
    exact ⟨v, h1, k v d G H S.refl h2 q⟩
  · exact q.elim
theorem bv_var (i : Nat) : BvD K H₀ E (tVar i) (dBVar i) := fun ex δ σ G H Qd Q hx S q k => by
  unfold dBVar at q
  split at q
  · rename_i d hs
    obtain ⟨v, h1, h2⟩ := S.has i _ hs
    exact ⟨v, h1, k v d G H S.refl (dv_same S.sub.same h2) q⟩
  · rename_i ds hs
    obtain ⟨a, vs, h1, h2, h3, h4⟩ := S.ownAt hs
    exact ⟨_, h1, k _ _ G H S.refl (.lst (SqL.of h3) (dvs_same S.sub.same h4)) q⟩
  · exact q.elim
theorem lv_var (i : Nat) : LvD K H₀ E (tVar i) (dLVar i) := fun ex δ σ G H Qd Q hx S q k => by
  unfold dLVar at q
  split at q
  · rename_i ds hs
    obtain ⟨v, h1, h2⟩ := S.has i _ hs
    obtain ⟨a, vs, rfl, h3, h4⟩ := dv_list h2
    exact ⟨_, h1, k a vs ds G H S.refl (S.sub.same.seq h3) h4 q⟩
  · rename_i ds hs
    obtain ⟨a, vs, h1, h2, h3, h4⟩ := S.ownAt hs
    exact ⟨_, h1, k a vs ds G H S.refl (SqL.of h3) h4 q⟩
  · exact q.elim
theorem ev_c {v : V} {d : PyData} (h : ∀ G : Hp, DV K G v d) : EvD K H₀ E (tC v) (dC d) := fun ex δ σ G H Qd Q hx S q k => k v d G H S.refl (h G) q
theorem ev_int {i : Int} : EvD K H₀ E (tC (.int i)) (dC (.int i)) := ev_c fun _ => .int i
theorem ev_bl {i : Bool} : EvD K H₀ E (tC (.bl i)) (dC (.bool i)) := ev_c fun _ => .bl i
theorem ev_str {i : Str} : EvD K H₀ E (tC (.str i)) (dC (.str i)) := ev_c fun _ => .str i
theorem av_nil : AvD K H₀ E tNil dNil := fun ex δ σ G H Qd Q hx S q k => k [] [] G H S.refl .nil q
theorem av_cons (h : BvD K H₀ E te de) (t : AvD K H₀ E ta dl) : AvD K H₀ E (tCons te ta) (dCons de dl) := fun ex δ σ G H Qd Q hx S q k =>
  h ex δ σ G H _ _ hx S q fun v d G1 H1 e1 hd q1 => t ex δ σ G1 H1 _ _ hx (S.ext e1) q1 fun vs ds G2 H2 e2 hds q2 =>
    k (v :: vs) (d :: ds) G2 H2 (e1.trans e2) (.cons (dv_same e2.h hd) hds) q2
theorem ae_nil : AvE K H₀ E tNil 0 dNil := fun ex δ σ G H Qd Q hx S q k => k [] [] G H S.refl .nil rfl q
theorem ae_cons {n : Nat} (h : EvD K H₀ E te de) (t : AvE K H₀ E ta n dl) : AvE K H₀ E (tCons te ta) (n + 1) (dCons de dl) := fun ex δ σ G H Qd Q hx S q k =>
  h ex δ σ G H _ _ hx S q fun v d G1 H1 e1 hd q1 => t ex δ σ G1 H1 _ _ hx (S.ext e1) q1 fun vs ds G2 H2 e2 hds hn q2 =>
    k (v :: vs) (d :: ds) G2 H2 (e1.trans e2) (.cons (dv_same e2.g hd) hds) (by rw [List.length_cons, hn]) q2
theorem ext_new {G H : Hp} {p : Addr} {xs : List V} (s : Sub G H) (hp : H p = none) : Ext G H (upd G p (.tup xs)) (upd H p (.tup xs)) := by
  have hg : G p = none := s.same.free hp
  refine ⟨fun b o z => by rw [upd_ne (ne_of_none z hg)]; exact z, fun b o z => by rw [upd_ne (ne_of_none z hp)]; exact z, fun b => ?_, fun b o z => ?_⟩
  · by_cases w : b = p
    · subst w; exact .inl (by rw [upd_same, upd_same])
    · rw [upd_ne w, upd_ne w]; exact s b
  · by_cases w : b = p
    · subst w; exact .inr hp
    · rw [upd_ne w] at z; exact .inl z
theorem ext_newL {G H : Hp} {p : Addr} {xs : List V} (s : Sub G H) (hp : H p = none) : Ext G H G (upd H p (.lst xs)) ∧ G p = none := by
  have hg : G p = none := s.same.free hp
  refine ⟨⟨Same.refl _, fun b o z => by rw [upd_ne (ne_of_none z hp)]; exact z, fun b => ?_, fun b o z => .inl z⟩, hg⟩
  by_cases w : b = p
  · subst w; exact .inr ⟨hg, xs, upd_same⟩
  · rw [upd_ne w]; exact s b
noncomputable def dTup (dl : DL) (ex : DX) (δ : DEn) (Q : PyData → Prop) : Prop := dl ex δ fun ds => Q (.tuple ds)
noncomputable def dLst (dl : DL) (ex : DX) (δ : DEn) (Q : List PyData → Prop) : Prop := dl ex δ Q
theorem ev_tup {n : Nat} (h : AvE K H₀ E ta n dl) (hn : n ≤ 1000) : EvD K H₀ E (tTup ta) (dTup dl) := fun ex δ σ G H Qd Q hx S q k =>
  h ex δ σ G H _ _ hx S q fun vs ds G1 H1 e1 hd q0 q1 => ⟨Nat.le_of_lt (small1000 (by rw [hd.len, q0]; exact hn)), fun p hp => by
    have e2 := ext_new (xs := vs) e1.s hp
    exact k (.ref p) (.tuple ds) _ _ (e1.trans e2) (.tup (SqT.of upd_same) (dvs_same e2.g hd)) q1⟩
theorem ov_lst {n : Nat} (h : AvE K H₀ E ta n dl) (hn : n ≤ 1000) : OvD K H₀ E (tLst ta) (dLst dl) := fun ex δ σ G H Qd Q hx S q k =>
  h ex δ σ G H _ _ hx S q fun vs ds G1 H1 e1 hd q0 q1 => ⟨Nat.le_of_lt (small1000 (by rw [hd.len, q0]; exact hn)), fun p hp => by
    obtain ⟨e2, hg⟩ := ext_newL (xs := vs) e1.s hp
    exact k p vs ds _ _ (e1.trans e2) (e1.h.free hp) hg upd_same hd q1⟩
end
section
variable {K : PySem.W.Frag} {H₀ : Hp} {E : XK} {te ta tb : TE} {da db de : DE} {dl dk : DL} {t : TA} {tt tu : TT} {dt du : DT}
noncomputable abbrev RD2 := PyData → PyData → (PyData → Prop) → Prop
noncomputable def ROp (K : PySem.W.Frag) (r : R2) (rd : RD2) : Prop := ∀ (G H : Hp) (x y : V) (dx dy : PyData) (Qd : PyData → Prop) (Q : VK), DV K H x dx → DV K H y dy → rd dx dy Qd → (∀ v d, DV K G v d → Qd d → Q v H) → r x y H Q
noncomputable def dOp (rd : RD2) (da db : DE) (ex : DX) (δ : DEn) (Q : PyData → Prop) : Prop := da ex δ fun x => db ex δ fun y => rd x y Q
theorem ev_op {r : R2} {rd : RD2} (hr : ROp K r rd) (ha : BvD K H₀ E ta da) (hb : BvD K H₀ E tb db) : EvD K H₀ E (tOp r ta tb) (dOp rd da db) := fun ex δ σ G H Qd Q hx S q k =>
  ha ex δ σ G H _ _ hx S q fun x dx G1 H1 e1 h1 q1 => hb ex δ σ G1 H1 _ _ hx (S.ext e1) q1 fun y dy G2 H2 e2 h2 q2 =>
    hr G2 H2 x y dx dy Qd Q (dv_same e2.h h1) h2 q2 fun v d hv qd => k v d G2 H2 (e1.trans e2) hv qd
noncomputable def oI (C : Int → Int → Prop) (f : Int → Int → Int) (x y : PyData) (Q : PyData → Prop) : Prop := match x, y with
  | .int i, .int j => C i j ∧ Q (.int (f i j))
  | _, _ => False
noncomputable def oI0 (f : Int → Int → Int) (x y : PyData) (Q : PyData → Prop) : Prop := match x, y with
  | .int i, .int j => Q (.int (f i j))
  | _, _ => False
noncomputable def oB0 (f : Int → Int → Bool) (x y : PyData) (Q : PyData → Prop) : Prop := match x, y with
  | .int i, .int j => Q (.bool (f i j))
  | _, _ => False
theorem ro_i {C : Int → Int → Prop} {f : Int → Int → Int} : ROp K (rI C fun i j => .int (f i j)) (oI C f) := by
  intro G H x y dx dy Qd Q hx hy q k
  unfold oI at q
  split at q
  · cases dv_int hx; cases dv_int hy
    exact ⟨_, _, rfl, rfl, q.1, k _ _ (.int _) q.2⟩
  · exact q.elim
theorem ro_i0 {f : Int → Int → Int} : ROp K (rI0 fun i j => .int (f i j)) (oI0 f) := by
  intro G H x y dx dy Qd Q hx hy q k
  unfold oI0 at q
  split at q
  · cases dv_int hx; cases dv_int hy
    exact ⟨_, _, rfl, rfl, k _ _ (.int _) q⟩
  · exact q.elim
theorem ro_b0 {f : Int → Int → Bool} : ROp K (rI0 fun i j => .bl (f i j)) (oB0 f) := by
  intro G H x y dx dy Qd Q hx hy q k
  unfold oB0 at q
  split at q
  · cases dv_int hx; cases dv_int hy
    exact ⟨_, _, rfl, rfl, k _ _ (.bl _) q⟩
  · exact q.elim
noncomputable def oEq (x y : PyData) (Q : PyData → Prop) : Prop := match x, y with
  | .int i, .int j => Q (.bool (decide (i = j)))
  | .str i, .str j => Q (.bool (decide (i = j)))
  | .bool i, .bool j => Q (.bool (decide (i = j)))
  | _, _ => False
noncomputable def oNe (x y : PyData) (Q : PyData → Prop) : Prop := match x, y with
  | .int i, .int j => Q (.bool (!decide (i = j)))
  | .str i, .str j => Q (.bool (!decide (i = j)))
  | .bool i, .bool j => Q (.bool (!decide (i = j)))
  | _, _ => False
theorem ro_eq : ROp K rEq oEq := by
  intro G H x y dx dy Qd Q hx hy q k
  unfold oEq at q
  split at q
  · cases dv_int hx; cases dv_int hy
    refine ⟨rfl, k _ _ (.bl _) ?_⟩
    simpa using q
  · cases dv_str hx; cases dv_str hy
    refine ⟨rfl, k _ _ (.bl _) ?_⟩
    simpa using q
  · cases dv_bl hx; cases dv_bl hy
    refine ⟨rfl, k _ _ (.bl _) ?_⟩
    simpa using q
  · exact q.elim
theorem ro_ne : ROp K rNe oNe := by
  intro G H x y dx dy Qd Q hx hy q k
  unfold oNe at q
  split at q
  · cases dv_int hx; cases dv_int hy
    refine ⟨rfl, k _ _ (.bl _) ?_⟩
    simpa using q
  · cases dv_str hx; cases dv_str hy
    refine ⟨rfl, k _ _ (.bl _) ?_⟩
    simpa using q
  · cases dv_bl hx; cases dv_bl hy
    refine ⟨rfl, k _ _ (.bl _) ?_⟩
    simpa using q
  · exact q.elim
noncomputable def oEqD (x y : PyData) (Q : PyData → Prop) : Prop := ∃ (α : Type) (e : Enc α) (a b : α), x = e.d a ∧ y = e.d b ∧ ∀ k : Bool, (k = true ↔ a = b) → Q (.bool k)
noncomputable def oNeD (x y : PyData) (Q : PyData → Prop) : Prop := ∃ (α : Type) (e : Enc α) (a b : α), x = e.d a ∧ y = e.d b ∧ ∀ k : Bool, (k = true ↔ a = b) → Q (.bool !k)
theorem ro_eqD : ROp K (rEqD K false) oEqD := by
  rintro G H x y dx dy Qd Q hx hy ⟨α, e, a, b, rfl, rfl, q⟩ k
  exact ⟨α, e, a, b, hx, hy, fun c hc => k _ _ (.bl _) (q c hc)⟩
theorem ro_neD : ROp K (rEqD K true) oNeD := by
  rintro G H x y dx dy Qd Q hx hy ⟨α, e, a, b, rfl, rfl, q⟩ k
  exact ⟨α, e, a, b, hx, hy, fun c hc => k _ _ (.bl _) (q c hc)⟩
noncomputable def dNeg (da : DE) (ex : DX) (δ : DEn) (Q : PyData → Prop) : Prop := da ex δ fun x => match x with
  | .int i => Q (.int (-i))
  | _ => False
theorem ev_neg (ha : BvD K H₀ E ta da) : EvD K H₀ E (tUn (rU fun i => .int (-i)) ta) (dNeg da) := fun ex δ σ G H Qd Q hx S q k =>
  ha ex δ σ G H _ _ hx S q fun x dx G1 H1 e1 h1 q1 => by
    cases dx with
    | int i =>
      cases dv_int h1
      exact ⟨_, rfl, k _ _ G1 H1 e1 (.int _) q1⟩
    | _ => exact q1.elim
theorem ev_k {v : Int} (h : EvD K H₀ E te de) (hk : ∀ ex δ Q, Q (.int v) → de ex δ Q) : EvD K H₀ E te (dC (.int v)) := fun ex δ σ G H Qd Q hx S q k => h ex δ σ G H Qd Q hx S (hk ex δ Qd q) k
noncomputable def dMap (f : Int → Int) (da : DE) (ex : DX) (δ : DEn) (Q : PyData → Prop) : Prop := da ex δ fun x => match x with
  | .int i => Q (.int (f i))
  | _ => False
theorem ev_dvk {k : Int} (hk : CDivB 0 k) (ha : BvD K H₀ E ta da) (hb : EvD K H₀ E tb (dC (.int k))) : EvD K H₀ E (tOp (rI CDivB fun i j => .int (i / j)) ta tb) (dMap (fun i => i / k) da) := fun ex δ σ G H Qd Q hx S q k' =>
  ha ex δ σ G H _ _ hx S q fun x dx G1 H1 e1 h1 q1 => hb ex δ σ G1 H1 (fun d => d = .int k) _ hx (S.ext e1) rfl fun y dy G2 H2 e2 h2 hy => by
    subst hy
    cases dv_int h2
    cases dx with
    | int i => cases dv_int h1; exact ⟨_, _, rfl, rfl, hk, k' _ _ G2 H2 (e1.trans e2) (.int _) q1⟩
    | _ => exact q1.elim
theorem ev_mdk {k : Int} (hk : 0 < k) (ha : BvD K H₀ E ta da) (hb : EvD K H₀ E tb (dC (.int k))) : EvD K H₀ E (tOp (rI (fun _ j => 0 < j) fun i j => .int (i % j)) ta tb) (dMap (fun i => i % k) da) := fun ex δ σ G H Qd Q hx S q k' =>
  ha ex δ σ G H _ _ hx S q fun x dx G1 H1 e1 h1 q1 => hb ex δ σ G1 H1 (fun d => d = .int k) _ hx (S.ext e1) rfl fun y dy G2 H2 e2 h2 hy => by
    subst hy
    cases dv_int h2
    cases dx with
    | int i => cases dv_int h1; exact ⟨_, _, rfl, rfl, hk, k' _ _ G2 H2 (e1.trans e2) (.int _) q1⟩
    | _ => exact q1.elim
noncomputable def dIxL (dl : DL) (db : DE) (ex : DX) (δ : DEn) (Q : PyData → Prop) : Prop := dl ex δ fun ds => db ex δ fun y => match y with
  | .int i => ∃ d, atI ds i = some d ∧ Q d
  | _ => False
theorem dvs_atI {G : Hp} {vs : List V} {ds : List PyData} {i : Int} {d : PyData} (h : DVs K G vs ds) (e : atI ds i = some d) : ∃ v, atI vs i = some v ∧ DV K G v d := by
  unfold atI at e ⊢
  rw [h.len]
  cases q : ixN ds.length i with
  | none => rw [q] at e; cases e
  | some j =>
    rw [q] at e
    exact h.at e
theorem ev_ixl (ha : LvD K H₀ E ta dl) (hb : BvD K H₀ E tb db) : EvD K H₀ E (tOp (rIxL K) ta tb) (dIxL dl db) := fun ex δ σ G H Qd Q hx S q k =>
  ha ex δ σ G H _ _ hx S q fun a vs ds G1 H1 e1 h1 h2 q1 => hb ex δ σ G1 H1 _ _ hx (S.ext e1) q1 fun y dy G2 H2 e2 h3 q2 => by
    cases dy with
    | int i =>
      obtain ⟨d, z, q2⟩ := q2
      cases dv_int h3
      obtain ⟨v, z1, z2⟩ := dvs_atI h2 z
      exact ⟨a, vs, i, v, rfl, rfl, e2.h.seq h1, z1, k v d G2 H2 (e1.trans e2) (dv_same e2.g z2) q2⟩
    | _ => exact q2.elim
noncomputable def nth : List PyData → Nat → Option PyData
  | [], _ => none
  | d :: _, 0 => some d
  | _ :: ds, n + 1 => nth ds n
theorem nth_at : ∀ {ds : List PyData} {k : Nat} {d : PyData}, nth ds k = some d → ds[k]? = some d
  | [], _, _, h => by cases h
  | d :: _, 0, _, h => by simpa [nth] using h
  | _ :: ds, k + 1, d, h => by simpa using nth_at (ds := ds) (k := k) (d := d) h
noncomputable def dIxK (k : Nat) (da : DE) (ex : DX) (δ : DEn) (Q : PyData → Prop) : Prop := da ex δ fun x => match x with
  | .tuple ds => (match nth ds k with
    | some d => Q d
    | none => False)
  | _ => False
theorem ev_ixk (m : Nat) (ha : EvD K H₀ E ta da) : EvD K H₀ E (tOp (rIxT K) ta (tC (.int (m : Int)))) (dIxK m da) := fun ex δ σ G H Qd Q hx S q k =>
  ha ex δ σ G H _ _ hx S q fun x dx G1 H1 e1 h1 q1 => by
    cases dx with
    | tuple ds =>
      dsimp only at q1
      split at q1
      · rename_i d z
        obtain ⟨a, vs, rfl, h2, h3⟩ := dv_tuple h1
        obtain ⟨v, z1, z2⟩ := dvs_atI h3 (atI_nat (nth_at z))
        exact ⟨a, vs, _, v, rfl, rfl, sqT_same e1.s.same h2, z1, k v _ G1 H1 e1 z2 q1⟩
      · exact q1.elim
    | _ => exact q1.elim
noncomputable abbrev RDc := List PyData → (PyData → Prop) → Prop
noncomputable def RCb (K : PySem.W.Frag) (r : List V → Hp → VK → Prop) (rd : RDc) : Prop := ∀ (G H : Hp) (xs : List V) (ds : List PyData) (Qd : PyData → Prop) (Q : VK), DVs K H xs ds → rd ds Qd → (∀ v d, DV K G v d → Qd d → Q v H) → r xs H Q
noncomputable def dCb (rd : RDc) (dl : DL) (ex : DX) (δ : DEn) (Q : PyData → Prop) : Prop := dl ex δ fun ds => rd ds Q
theorem ev_cb {r : List V → Hp → VK → Prop} {rd : RDc} (hr : RCb K r rd) (ha : AvD K H₀ E t dl) : EvD K H₀ E (tCB r t) (dCb rd dl) := fun ex δ σ G H Qd Q hx S q k =>
  ha ex δ σ G H _ _ hx S q fun vs ds G1 H1 e1 h1 q1 => hr G1 H1 vs ds Qd Q h1 q1 fun v d hv qd => k v d G1 H1 e1 hv qd
noncomputable def bAbs (ds : List PyData) (Q : PyData → Prop) : Prop := match ds with
  | [.int i] => Q (.int (if i < 0 then -i else i))
  | _ => False
noncomputable def bMin (ds : List PyData) (Q : PyData → Prop) : Prop := match ds with
  | [.int i, .int j] => Q (.int (if j < i then j else i))
  | _ => False
noncomputable def bLen (ds : List PyData) (Q : PyData → Prop) : Prop := match ds with
  | [.list xs] => Q (.int xs.length)
  | [.tuple xs] => Q (.int xs.length)
  | _ => False
noncomputable def bSum (ds : List PyData) (Q : PyData → Prop) : Prop := match ds with
  | [.list xs] => ∃ ns : List Int, xs = ns.map PyData.int ∧ Q (.int ns.sum)
  | _ => False
theorem dvs1 {H : Hp} {xs : List V} {d : PyData} (h : DVs K H xs [d]) : ∃ x, xs = [x] ∧ DV K H x d := by
  cases h with
  | cons h t => cases t; exact ⟨_, rfl, h⟩
theorem dvs2 {H : Hp} {xs : List V} {d e : PyData} (h : DVs K H xs [d, e]) : ∃ x y, xs = [x, y] ∧ DV K H x d ∧ DV K H y e := by
  cases h with
  | cons h t => cases t with
    | cons h2 t => cases t; exact ⟨_, _, rfl, h, h2⟩
theorem rb_abs : RCb K (fun xs H Q => ∃ i, xs = [.int i] ∧ Q (.int (if i < 0 then -i else i)) H) bAbs := by
  intro G H xs ds Qd Q h q k
  unfold bAbs at q
  split at q
  · obtain ⟨x, rfl, hx⟩ := dvs1 h
    cases dv_int hx
    exact ⟨_, rfl, k _ _ (.int _) q⟩
  · exact q.elim
theorem rb_min : RCb K (fun xs H Q => ∃ i j, xs = [.int i, .int j] ∧ Q (.int (if j < i then j else i)) H) bMin := by
  intro G H xs ds Qd Q h q k
  unfold bMin at q
  split at q
  · obtain ⟨x, y, rfl, hx, hy⟩ := dvs2 h
    cases dv_int hx; cases dv_int hy
    exact ⟨_, _, rfl, k _ _ (.int _) q⟩
  · exact q.elim
theorem rb_len : RCb K (fun xs H Q => ∃ p ys, xs = [.ref p] ∧ (SqL K H p ys ∨ SqT K H p ys) ∧ Q (.int ys.length) H) bLen := by
  intro G H xs ds Qd Q h q k
  unfold bLen at q
  split at q
  · obtain ⟨x, rfl, hx⟩ := dvs1 h
    obtain ⟨a, vs, rfl, h1, h2⟩ := dv_list hx
    exact ⟨a, vs, rfl, .inl h1, k _ _ (.int _) (by rw [h2.len]; exact q)⟩
  · obtain ⟨x, rfl, hx⟩ := dvs1 h
    obtain ⟨a, vs, rfl, h1, h2⟩ := dv_tuple hx
    exact ⟨a, vs, rfl, .inr h1, k _ _ (.int _) (by rw [h2.len]; exact q)⟩
  · exact q.elim
theorem dvs_ints {H : Hp} : ∀ {ns : List Int} {xs : List V}, DVs K H xs (ns.map PyData.int) → xs = ns.map V.int
  | [], _, .nil => rfl
  | n :: ns, _, .cons h t => by
    cases dv_int h
    rw [dvs_ints t]; rfl
theorem rb_sum : RCb K (fun xs H Q => ∃ (p : Addr) (ns : List Int), xs = [.ref p] ∧ SqL K H p (ns.map V.int) ∧ Q (.int ns.sum) H) bSum := by
  intro G H xs ds Qd Q h q k
  unfold bSum at q
  split at q
  · obtain ⟨x, rfl, hx⟩ := dvs1 h
    obtain ⟨ns, rfl, q⟩ := q
    obtain ⟨a, vs, rfl, h1, h2⟩ := dv_list hx
    cases dvs_ints h2
    exact ⟨a, ns, rfl, h1, k _ _ (.int _) q⟩
  · exact q.elim
noncomputable def dListOf (dl : DL) (ex : DX) (δ : DEn) (Q : List PyData → Prop) : Prop := dl ex δ Q
theorem ov_list {te : TE} (ha : LvD K H₀ E te dl) : OvD K H₀ E (tCB (fun xs H Q => ∃ p ys, xs = [.ref p] ∧ (SqL K H p ys ∨ SqT K H p ys) ∧ ∀ l, H l = none → Q (.ref l) (upd H l (.lst ys))) (tCons te tNil)) (dListOf dl) := fun ex δ σ G H Qd Q hx S q k =>
  ha ex δ σ G H _ _ hx S q fun a vs ds G1 H1 e1 h1 h2 q1 => ⟨a, vs, rfl, .inl h1, fun p hp => by
    obtain ⟨e2, hg⟩ := ext_newL (xs := vs) e1.s hp
    exact k p vs ds _ _ (e1.trans e2) (e1.h.free hp) hg upd_same h2 q1⟩
noncomputable def tyD : PyData → String
  | .none => "NoneType"
  | .bool _ => "bool"
  | .int _ => "int"
  | .str _ => "str"
  | .list _ => "list"
  | .tuple _ => "tuple"
  | .dict _ => "dict"
noncomputable def isD (n : String) (d : PyData) : Bool := tyD d == n || (n == "int" && tyD d == "bool")
noncomputable abbrev DO := DX → DEn → (Option Int → Prop) → Prop
noncomputable def OvP (K : PySem.W.Frag) (H₀ : Hp) (E : XK) (to : TO) (d : DO) : Prop := ∀ ex δ σ G H Qd Q, ExOk H₀ E ex → Sees K H₀ G δ σ H → d ex δ Qd → (∀ o G' H', Ext G H G' H' → Qd o → Q o H') → to σ H Q
noncomputable def dNoP (_ex : DX) (_δ : DEn) (Q : Option Int → Prop) : Prop := Q none
noncomputable def dPart (de : DE) (ex : DX) (δ : DEn) (Q : Option Int → Prop) : Prop := de ex δ fun x => match x with
  | .int i => Q (some i)
  | _ => False
theorem op_no : OvP K H₀ E tNoPart dNoP := fun ex δ σ G H Qd Q hx S q k => k none G H S.refl q
theorem op_part (h : BvD K H₀ E te de) : OvP K H₀ E (tPart te) (dPart de) := fun ex δ σ G H Qd Q hx S q k =>
  h ex δ σ G H _ _ hx S q fun x dx G1 H1 e1 h1 q1 => by
    cases dx with
    | int i =>
      cases dv_int h1
      exact ⟨_, rfl, k _ G1 H1 e1 q1⟩
    | _ => exact q1.elim
noncomputable def cutL {α : Type} (xs : List α) (lo hi : Option Int) : List α := (xs.drop (HT.sIx xs.length 0 lo)).take (HT.sIx xs.length xs.length hi - HT.sIx xs.length 0 lo)
theorem cutL_map {α β : Type} (f : α → β) (xs : List α) (lo hi : Option Int) : cutL (xs.map f) lo hi = (cutL xs lo hi).map f := by
  unfold cutL
  rw [List.length_map, List.map_take, List.map_drop]
theorem cutL_lo {α : Type} (xs : List α) (k : Nat) : cutL xs (some (k : Int)) none = xs.drop k := by
  unfold cutL
  rw [HT.sIx_none, HT.sIx_nat]
  by_cases h : k ≤ xs.length
  · rw [Nat.min_eq_left h, List.take_of_length_le (by rw [List.length_drop]; omega)]
  · have e : min k xs.length = xs.length := by omega
    rw [e, List.drop_length, List.take_nil, List.drop_eq_nil_of_le (by omega)]
noncomputable def dSl (dl : DL) (d1 d2 : DO) (ex : DX) (δ : DEn) (Q : List PyData → Prop) : Prop := dl ex δ fun ds => d1 ex δ fun lo => d2 ex δ fun hi => Q (cutL ds lo hi)
theorem dvs_cut {G : Hp} {vs : List V} {ds : List PyData} {lo hi : Option Int} (h : DVs K G vs ds) : DVs K G (cutV vs lo hi) (cutL ds lo hi) := by
  unfold cutV cutL
  rw [h.len]
  exact (h.drop _).take _
theorem ov_sl {t1 t2 : TO} {d1 d2 : DO} (ha : LvD K H₀ E te dl) (h1 : OvP K H₀ E t1 d1) (h2 : OvP K H₀ E t2 d2) : OvD K H₀ E (tSl (rSlL K) te t1 t2) (dSl dl d1 d2) := fun ex δ σ G H Qd Q hx S q k =>
  ha ex δ σ G H _ _ hx S q fun a vs ds G1 H1 e1 g1 g2 q1 => h1 ex δ σ G1 H1 _ _ hx (S.ext e1) q1 fun lo G2 H2 e2 q2 => h2 ex δ σ G2 H2 _ _ hx (S.ext (e1.trans e2)) q2 fun hi G3 H3 e3 q3 =>
    ⟨a, vs, rfl, (e2.trans e3).h.seq g1, fun p hp => by
      obtain ⟨e4, hg⟩ := ext_newL (xs := cutV vs lo hi) e3.s hp
      have e0 := e1.trans (e2.trans e3)
      exact k p _ _ _ _ (e0.trans e4) (e0.h.free hp) hg upd_same (dvs_same (e2.trans e3).g (dvs_cut g2)) q3⟩
noncomputable def dAsB (de : DE) (ex : DX) (δ : DEn) (Q : Bool → Prop) : Prop := de ex δ fun x => match x with
  | .bool b => Q b
  | _ => False
theorem tv_b (h : BvD K H₀ E te de) : TvD K H₀ E (tB te) (dAsB de) := fun ex δ σ G H Qd Q hx S q k =>
  h ex δ σ G H _ _ hx S q fun x dx G1 H1 e1 h1 q1 => by
    cases dx with
    | bool i =>
      cases dv_bl h1
      exact ⟨_, rfl, k _ G1 H1 e1 q1⟩
    | _ => exact q1.elim
theorem tv_test (h : BvD K H₀ E te de) : TvD K H₀ E (tTest te) (dAsB de) := fun ex δ σ G H Qd Q hx S q k =>
  h ex δ σ G H _ _ hx S q fun x dx G1 H1 e1 h1 q1 => by
    cases dx with
    | bool i =>
      cases dv_bl h1
      exact ⟨_, rfl, k _ G1 H1 e1 q1⟩
    | _ => exact q1.elim
noncomputable def dAnd (dt du : DT) (ex : DX) (δ : DEn) (Q : Bool → Prop) : Prop := dt ex δ fun b => if b = true then du ex δ Q else Q false
noncomputable def dOr (dt du : DT) (ex : DX) (δ : DEn) (Q : Bool → Prop) : Prop := dt ex δ fun b => if b = true then Q true else du ex δ Q
noncomputable def dNot (dt : DT) (ex : DX) (δ : DEn) (Q : Bool → Prop) : Prop := dt ex δ fun b => Q (!b)
theorem tv_and (h1 : TvD K H₀ E tt dt) (h2 : TvD K H₀ E tu du) : TvD K H₀ E (tAnd tt tu) (dAnd dt du) := fun ex δ σ G H Qd Q hx S q k =>
  h1 ex δ σ G H _ _ hx S q fun b G1 H1 e1 q1 => by
    cases b with
    | true => exact h2 ex δ σ G1 H1 _ _ hx (S.ext e1) q1 fun c G2 H2 e2 q2 => k c G2 H2 (e1.trans e2) q2
    | false => exact k false G1 H1 e1 q1
theorem tv_or (h1 : TvD K H₀ E tt dt) (h2 : TvD K H₀ E tu du) : TvD K H₀ E (tOr tt tu) (dOr dt du) := fun ex δ σ G H Qd Q hx S q k =>
  h1 ex δ σ G H _ _ hx S q fun b G1 H1 e1 q1 => by
    cases b with
    | false => exact h2 ex δ σ G1 H1 _ _ hx (S.ext e1) q1 fun c G2 H2 e2 q2 => k c G2 H2 (e1.trans e2) q2
    | true => exact k true G1 H1 e1 q1
theorem tv_not (h1 : TvD K H₀ E tt dt) : TvD K H₀ E (tNot tt) (dNot dt) := fun ex δ σ G H Qd Q hx S q k =>
  h1 ex δ σ G H _ _ hx S q fun b G1 H1 e1 q1 => k _ G1 H1 e1 q1
noncomputable def dAndV (da db : DE) (ex : DX) (δ : DEn) (Q : PyData → Prop) : Prop := da ex δ fun x => match x with
  | .bool b => if b = true then db ex δ Q else Q (.bool false)
  | _ => False
noncomputable def dOrV (da db : DE) (ex : DX) (δ : DEn) (Q : PyData → Prop) : Prop := da ex δ fun x => match x with
  | .bool b => if b = true then Q (.bool true) else db ex δ Q
  | _ => False
noncomputable def dNotV (da : DE) (ex : DX) (δ : DEn) (Q : PyData → Prop) : Prop := da ex δ fun x => match x with
  | .bool b => Q (.bool (!b))
  | _ => False
theorem ev_and (ha : BvD K H₀ E ta da) (hb : EvD K H₀ E tb db) : EvD K H₀ E (tAndV ta tb) (dAndV da db) := fun ex δ σ G H Qd Q hx S q k =>
  ha ex δ σ G H _ _ hx S q fun x dx G1 H1 e1 h1 q1 => by
    cases dx with
    | bool i =>
      cases dv_bl h1
      refine ⟨_, rfl, ?_⟩
      cases i with
      | true => exact hb ex δ σ G1 H1 _ _ hx (S.ext e1) q1 fun v d G2 H2 e2 hd q2 => k v d G2 H2 (e1.trans e2) hd q2
      | false => exact k _ _ G1 H1 e1 (.bl _) q1
    | _ => exact q1.elim
theorem ev_or (ha : BvD K H₀ E ta da) (hb : EvD K H₀ E tb db) : EvD K H₀ E (tOrV ta tb) (dOrV da db) := fun ex δ σ G H Qd Q hx S q k =>
  ha ex δ σ G H _ _ hx S q fun x dx G1 H1 e1 h1 q1 => by
    cases dx with
    | bool i =>
      cases dv_bl h1
      refine ⟨_, rfl, ?_⟩
      cases i with
      | false => exact hb ex δ σ G1 H1 _ _ hx (S.ext e1) q1 fun v d G2 H2 e2 hd q2 => k v d G2 H2 (e1.trans e2) hd q2
      | true => exact k _ _ G1 H1 e1 (.bl _) q1
    | _ => exact q1.elim
theorem ev_not (ha : BvD K H₀ E ta da) : EvD K H₀ E (tNotV ta) (dNotV da) := fun ex δ σ G H Qd Q hx S q k =>
  ha ex δ σ G H _ _ hx S q fun x dx G1 H1 e1 h1 q1 => by
    cases dx with
    | bool i =>
      cases dv_bl h1
      exact ⟨_, rfl, k _ _ G1 H1 e1 (.bl _) q1⟩
    | _ => exact q1.elim
noncomputable def dIfE (dt : DT) (da db : DE) (ex : DX) (δ : DEn) (Q : PyData → Prop) : Prop := dt ex δ fun b => if b = true then da ex δ Q else db ex δ Q
theorem ev_if (ht : TvD K H₀ E tt dt) (ha : EvD K H₀ E ta da) (hb : EvD K H₀ E tb db) : EvD K H₀ E (tIf tt ta tb) (dIfE dt da db) := fun ex δ σ G H Qd Q hx S q k =>
  ht ex δ σ G H _ _ hx S q fun b G1 H1 e1 q1 => by
    cases b with
    | true => exact ha ex δ σ G1 H1 _ _ hx (S.ext e1) q1 fun v d G2 H2 e2 hd q2 => k v d G2 H2 (e1.trans e2) hd q2
    | false => exact hb ex δ σ G1 H1 _ _ hx (S.ext e1) q1 fun v d G2 H2 e2 hd q2 => k v d G2 H2 (e1.trans e2) hd q2
noncomputable abbrev DW := List PyData → (Sl → Prop) → DX → Prop
noncomputable def rm (H : Hp) (a : Addr) : Hp := fun b => if b = a then none else H b
noncomputable def RetIs (K : PySem.W.Frag) (H H' : Hp) (v : V) : Sl → Prop
  | .dat d => DV K H' v d
  | .own ds => ∃ a vs, v = .ref a ∧ H a = none ∧ H' a = some (.lst vs) ∧ DVs K (rm H' a) vs ds
  | .exc _ => False
  | .fz _ _ => False
  | .two xs ys => ∃ t a b vs ws, v = .ref t ∧ SqT K H' t [.ref a, .ref b] ∧ a ≠ b ∧ H a = none ∧ H b = none ∧ H' a = some (.lst vs) ∧ H' b = some (.lst ws) ∧ DVs K (rm (rm H' a) b) vs xs ∧ DVs K (rm (rm H' a) b) ws ys
noncomputable def spW (K : PySem.W.Frag) (w : DW) : Sp := fun vs H Q E => ∃ ds Qd Ed, DVs K H vs ds ∧ w ds Qd Ed ∧ (∀ v s H', Same H H' → RetIs K H H' v s → Qd s → Q v H') ∧ (∀ C H', Same H H' → Ed C → E (.ref C) none H')
noncomputable def grow (G H H' : Hp) : Hp := fun b => match H b with
  | none => H' b
  | some _ => G b
theorem ext_grow {G H H' : Hp} (s : Sub G H) (h : Same H H') : Ext G H (grow G H H') H' := by
  refine ⟨fun b o z => ?_, h, fun b => ?_, fun b o z => ?_⟩
  · unfold grow
    rw [s.same b o z]
    exact z
  · unfold grow
    cases q : H b with
    | none => exact .inl rfl
    | some o =>
      dsimp only
      rw [h b o q]
      have := s b
      rw [q] at this
      exact this
  · unfold grow at z
    cases q : H b with
    | none => exact .inr rfl
    | some u => rw [q] at z; exact .inl z
theorem grow_flat {G H H' : Hp} (s : Sub G H) (h : Same H H') : ∀ b o, H' b = some o → (∀ xs, o ≠ .lst xs) → grow G H H' b = some o := fun b o e n => by
  unfold grow
  cases q : H b with
  | none => exact e
  | some u =>
    dsimp only
    have := h b u q
    rw [e] at this
    cases this
    exact s.other q n
noncomputable def flatS : (PyData → Prop) → Sl → Prop
  | Q, .dat d => flatD d = true ∧ Q d
  | Q, .own ds => flatDs ds = true ∧ Q (.list ds)
  | _, .exc _ => False
  | _, .fz _ _ => False
  | _, .two _ _ => False
noncomputable def ownS : (List PyData → Prop) → Sl → Prop
  | _, .dat _ => False
  | Q, .own ds => flatDs ds = true ∧ Q ds
  | _, .exc _ => False
  | _, .fz _ _ => False
  | _, .two _ _ => False
noncomputable def anyS : (PyData → Prop) → Sl → Prop
  | Q, .dat d => Q d
  | Q, .own ds => Q (.list ds)
  | _, .exc _ => False
  | _, .fz _ _ => False
  | Q, .two xs ys => Q (.tuple [.list xs, .list ys])
noncomputable def twoS : (List PyData → List PyData → Prop) → Sl → Prop
  | _, .dat _ => False
  | _, .own _ => False
  | _, .exc _ => False
  | _, .fz _ _ => False
  | Q, .two xs ys => flatDs xs = true ∧ flatDs ys = true ∧ Q xs ys
noncomputable def dCall (w : DW) (dl : DL) (ex : DX) (δ : DEn) (Q : PyData → Prop) : Prop := dl ex δ fun ds => w ds (flatS Q) ex
noncomputable def dCall0 (w : DW) (dl : DL) (ex : DX) (δ : DEn) (Q : PyData → Prop) : Prop := dl ex δ fun ds => w ds (flatS Q) fun _ => False
noncomputable def dCallO0 (w : DW) (dl : DL) (ex : DX) (δ : DEn) (Q : List PyData → Prop) : Prop := dl ex δ fun ds => w ds (ownS Q) fun _ => False
noncomputable def dCallB0 (w : DW) (dl : DL) (ex : DX) (δ : DEn) (Q : PyData → Prop) : Prop := dl ex δ fun ds => w ds (anyS Q) fun _ => False
theorem exok0 {H₀ : Hp} {E : XK} : ExOk H₀ E fun _ => False := fun _ _ _ z => z.elim
theorem ret_flat {G H H' : Hp} {v : V} {s : Sl} {Q : PyData → Prop} (hs : Sub G H) (h : Same H H') (r : RetIs K H H' v s) (q : flatS Q s) : ∃ d G', Ext G H G' H' ∧ DV K G' v d ∧ Q d := by
  cases s with
  | exc C => exact r.elim
  | fz _ _ => exact r.elim
  | two xs ys => exact q.elim
  | dat d => exact ⟨d, _, ext_grow hs h, dv_flat (grow_flat hs h) r q.1, q.2⟩
  | own ds =>
    obtain ⟨a, vs, rfl, hn, hh, hd⟩ := r
    have hd1 : DVs K H' vs ds := dvs_same (fun b o z => by
      unfold rm at z
      split at z
      · cases z
      · exact z) hd
    refine ⟨.list ds, _, ext_grow hs h, .lst (SqL.of ?_) (dvs_flat (grow_flat hs h) hd1 q.1), q.2⟩
    unfold grow
    rw [hn]
    exact hh
theorem ret_own {G H H' : Hp} {v : V} {s : Sl} {Q : List PyData → Prop} (hs : Sub G H) (h : Same H H') (r : RetIs K H H' v s) (q : ownS Q s) :
    ∃ a vs ds G', v = .ref a ∧ Ext G H G' H' ∧ H a = none ∧ G' a = none ∧ H' a = some (.lst vs) ∧ DVs K G' vs ds ∧ Q ds := by
  cases s with
  | exc C => exact r.elim
  | fz _ _ => exact r.elim
  | two xs ys => exact q.elim
  | dat d => exact q.elim
  | own ds =>
    obtain ⟨a, vs, rfl, hn, hh, hd⟩ := r
    have e := ext_grow hs h
    have hg : G a = none := hs.same.free hn
    refine ⟨a, vs, ds, rm (grow G H H') a, rfl, ⟨fun b o z => ?_, h, fun b => ?_, fun b o z => ?_⟩, hn, by unfold rm; rw [if_pos rfl], hh, dvs_flat (fun b o z n => ?_) hd q.1, q.2⟩
    · unfold rm
      rw [if_neg (ne_of_none z hg)]
      exact e.g b o z
    · unfold rm
      split
      · rename_i z; subst z
        exact .inr ⟨rfl, vs, hh⟩
      · exact e.s b
    · unfold rm at z
      split at z
      · cases z
      · exact e.n b o z
    · unfold rm at z ⊢
      split at z
      · cases z
      · rename_i hb
        rw [if_neg hb]
        exact grow_flat hs h b o z n
theorem rm2_same {H : Hp} {a b : Addr} : Same (rm (rm H a) b) H := fun c o z => by
  unfold rm at z
  split at z
  · cases z
  · split at z
    · cases z
    · exact z
theorem ret_any {H H' : Hp} {v : V} {s : Sl} {Q : PyData → Prop} (r : RetIs K H H' v s) (q : anyS Q s) : ∃ d, DV K H' v d ∧ Q d := by
  cases s with
  | exc C => exact r.elim
  | fz _ _ => exact r.elim
  | two xs ys =>
    obtain ⟨t, a, b, vs, ws, rfl, ht, hab, ha, hb, hh, hk, hd, he⟩ := r
    have sm : Same (rm (rm H' a) b) H' := rm2_same
    exact ⟨.tuple [.list xs, .list ys], .tup ht (.cons (.lst (SqL.of hh) (dvs_same sm hd)) (.cons (.lst (SqL.of hk) (dvs_same sm he)) .nil)), q⟩
  | dat d => exact ⟨d, r, q⟩
  | own ds =>
    obtain ⟨a, vs, rfl, hn, hh, hd⟩ := r
    exact ⟨.list ds, .lst (SqL.of hh) (dvs_same (fun b o z => by
      unfold rm at z
      split at z
      · cases z
      · exact z) hd), q⟩
section
variable {w : DW}
theorem call_use {E' : XK} {ex : DX} {δ : DEn} {σ : L2.St} {G H : Hp} {Q : VK} {QS : Sl → Prop} (ha : AvD K H₀ E t dl) (hx : ExOk H₀ E ex) (hx' : ∀ ex', ex' = ex ∨ ex' = (fun _ => False) → ExOk H₀ E' ex' ∨ True) (S : Sees K H₀ G δ σ H) (ex' : DX) (he : ExOk H₀ E' ex')
    (q : dl ex δ fun ds => w ds QS ex') (k : ∀ v s G1 H1 H2, Ext G H G1 H1 → Same H1 H2 → RetIs K H1 H2 v s → QS s → Q v H2) : tCall (spW K w) [] E' t σ H Q :=
  ha ex δ σ G H _ _ hx S q fun vs ds G1 H1 e1 h1 q1 => by
    refine ⟨ds, QS, ex', by rw [List.append_nil]; exact h1, q1, fun v s H2 sm r qs => k v s G1 H1 H2 e1 sm r qs, fun C H2 sm hc => he C H2 ((S.ext e1).oldH.trans sm) hc⟩
theorem ev_call (ha : AvD K H₀ E t dl) : EvD K H₀ E (tCall (spW K w) [] E t) (dCall w dl) := fun ex δ σ G H Qd Q hx S q k =>
  call_use ha hx (fun _ _ => .inr trivial) S ex hx q fun v s G1 H1 H2 e1 sm r qs => by
    obtain ⟨d, G', e2, hd, q2⟩ := ret_flat e1.s sm r qs
    exact k v d G' H2 (e1.trans e2) hd q2
theorem ev_call0 (ha : AvD K H₀ E t dl) : EvD K H₀ E (tCall (spW K w) [] E0 t) (dCall0 w dl) := fun ex δ σ G H Qd Q hx S q k =>
  call_use ha hx (fun _ _ => .inr trivial) S (fun _ => False) exok0 q fun v s G1 H1 H2 e1 sm r qs => by
    obtain ⟨d, G', e2, hd, q2⟩ := ret_flat e1.s sm r qs
    exact k v d G' H2 (e1.trans e2) hd q2
theorem ov_call0 (ha : AvD K H₀ E t dl) : OvD K H₀ E (tCall (spW K w) [] E0 t) (dCallO0 w dl) := fun ex δ σ G H Qd Q hx S q k =>
  call_use ha hx (fun _ _ => .inr trivial) S (fun _ => False) exok0 q fun v s G1 H1 H2 e1 sm r qs => by
    obtain ⟨a, vs, ds, G', rfl, e2, hn, hg, hh, hd, q2⟩ := ret_own e1.s sm r qs
    exact k a vs ds G' H2 (e1.trans e2) (e1.h.free hn) hg hh hd q2
theorem bv_call0 (ha : AvD K H₀ E t dl) : BvD K H₀ E (tCall (spW K w) [] E0 t) (dCallB0 w dl) := fun ex δ σ G H Qd Q hx S q k =>
  call_use ha hx (fun _ _ => .inr trivial) S (fun _ => False) exok0 q fun v s G1 H1 H2 e1 sm r qs => by
    obtain ⟨d, hd, q2⟩ := ret_any r qs
    exact k v d _ H2 (e1.trans (ext_grow e1.s sm)) hd q2
end
end
structure DEnds where
  nx : DEn → Prop
  rt : Sl → Prop
  ex : DX
  bk : DEn → Prop := fun _ => False
  ct : DEn → Prop := fun _ => False
noncomputable abbrev DS := DEnds → DEn → Prop
structure Lk (K : PySem.W.Frag) (H₀ G : Hp) (e : DEnds) (D : Ends) : Prop where
  nx : ∀ δ σ G' H, Same G G' → Sees K H₀ G' δ σ H → e.nx δ → D.nx σ H
  rt : ∀ v s H, Same H₀ H → RetIs K H₀ H v s → e.rt s → D.rt v H
  bk : ∀ δ σ G' H, Same G G' → Sees K H₀ G' δ σ H → e.bk δ → D.bk σ H
  ct : ∀ δ σ G' H, Same G G' → Sees K H₀ G' δ σ H → e.ct δ → D.ct σ H
theorem Lk.mono {K : PySem.W.Frag} {H₀ G G1 : Hp} {e : DEnds} {D : Ends} (L : Lk K H₀ G e D) (s : Same G G1) : Lk K H₀ G1 e D :=
  ⟨fun δ σ G' H t => L.nx δ σ G' H (s.trans t), L.rt, fun δ σ G' H t => L.bk δ σ G' H (s.trans t), fun δ σ G' H t => L.ct δ σ G' H (s.trans t)⟩
noncomputable def SvD (K : PySem.W.Frag) (H₀ : Hp) (E : XK) (ts : TS) (ds : DS) : Prop := ∀ δ σ G H e D, ExOk H₀ E e.ex → Sees K H₀ G δ σ H → ds e δ → Lk K H₀ G e D → ts D σ H
noncomputable abbrev DG := PyData → DEn → (DEn → Prop) → Prop
noncomputable abbrev DGs := List PyData → DEn → (DEn → Prop) → Prop
noncomputable def Kp (ns : List Nat) (σ σ' : L2.St) : Prop := σ'.length = σ.length ∧ ∀ j, j ∉ ns → σ'[j]? = σ[j]?
noncomputable def GvD (K : PySem.W.Frag) (H₀ : Hp) (g : TG) (ns : List Nat) (dg : DG) : Prop := ∀ v d δ σ G H Qd Q, Sees K H₀ G δ σ H → DV K G v d → dg d δ Qd → (∀ δ' σ', Sees K H₀ G δ' σ' H → Kp ns σ σ' → Qd δ' → Q σ' H) → g v σ H Q
noncomputable def GsvD (K : PySem.W.Frag) (H₀ : Hp) (g : TGs) (ns : List Nat) (dg : DGs) : Prop := ∀ vs ds δ σ G H Qd Q, Sees K H₀ G δ σ H → DVs K G vs ds → dg ds δ Qd → (∀ δ' σ', Sees K H₀ G δ' σ' H → Kp ns σ σ' → Qd δ' → Q σ' H) → g vs σ H Q
section
variable {K : PySem.W.Frag} {H₀ : Hp} {E : XK} {te ta tb : TE} {da db de : DE} {dl dk : DL} {t : TA} {tt tu : TT} {dt du : DT} {ts tz : TS} {ds dz : DS} {g : TG} {dg : DG} {gs : TGs} {dgs : DGs} {ns ms : List Nat}
noncomputable def dNext (e : DEnds) (δ : DEn) : Prop := e.nx δ
noncomputable def dSeq (d1 d2 : DS) (e : DEnds) (δ : DEn) : Prop := d1 { e with nx := d2 e } δ
noncomputable def dCut (d1 d2 : DS) (e : DEnds) (δ : DEn) : Prop := ∃ I : DEn → Prop, d1 { e with nx := I } δ ∧ ∀ δ', I δ' → d2 e δ'
theorem sv_next : SvD K H₀ E tNext dNext := fun δ σ G H e D hx S q L => L.nx δ σ G H (Same.refl _) S q
theorem sv_seq (h1 : SvD K H₀ E ts ds) (h2 : SvD K H₀ E tz dz) : SvD K H₀ E (tSeq ts tz) (dSeq ds dz) := fun δ σ G H e D hx S q L =>
  h1 δ σ G H { e with nx := dz e } { D with nx := tz D } hx S q ⟨fun δ' σ' G' H' s S' q' => h2 δ' σ' G' H' e D hx S' q' (L.mono s), L.rt, L.bk, L.ct⟩
theorem sv_cut (h1 : SvD K H₀ E ts ds) (h2 : SvD K H₀ E tz dz) : SvD K H₀ E (tSeq ts tz) (dCut ds dz) := fun δ σ G H e D hx S ⟨I, q, qi⟩ L =>
  h1 δ σ G H { e with nx := I } { D with nx := tz D } hx S q ⟨fun δ' σ' G' H' s S' q' => h2 δ' σ' G' H' e D hx S' (qi δ' q') (L.mono s), L.rt, L.bk, L.ct⟩
noncomputable def dRet (de : DE) (e : DEnds) (δ : DEn) : Prop := de e.ex δ fun d => e.rt (.dat d)
noncomputable def dRetO (dl : DL) (e : DEnds) (δ : DEn) : Prop := dl e.ex δ fun ds => e.rt (.own ds)
noncomputable def dRetV (i : Nat) (e : DEnds) (δ : DEn) : Prop := match slot δ i with
  | some (.dat d) => e.rt (.dat d)
  | some (.own ds) => e.rt (.own ds)
  | _ => False
theorem ret_of_own {G H : Hp} {a : Addr} {vs : List V} {ds : List PyData} (h0 : H₀ a = none) (hg : G a = none) (s : Sub G H) (hh : H a = some (.lst vs)) (hd : DVs K G vs ds) : RetIs K H₀ H (.ref a) (.own ds) :=
  ⟨a, vs, rfl, h0, hh, dvs_same (fun b o z => by
    unfold rm
    rw [if_neg (ne_of_none z hg)]
    exact s.same b o z) hd⟩
theorem sv_ret (h : BvD K H₀ E te de) : SvD K H₀ E (tRet te) (dRet de) := fun δ σ G H e D hx S q L =>
  h e.ex δ σ G H _ _ hx S q fun v d G' H' x hd qd => L.rt v (.dat d) H' (S.ext x).oldH hd qd
theorem sv_retO (h : OvD K H₀ E te dl) : SvD K H₀ E (tRet te) (dRetO dl) := fun δ σ G H e D hx S q L =>
  h e.ex δ σ G H _ _ hx S q fun a vs ds G' H' x hn hg hh hd qd => L.rt (.ref a) (.own ds) H' (S.ext x).oldH (ret_of_own (S.oldH.free hn) hg x.s hh hd) qd
theorem sv_retV (i : Nat) : SvD K H₀ E (tRet (tVar i)) (dRetV i) := fun δ σ G H e D hx S q L => by
  unfold dRetV at q
  split at q
  · rename_i d hs
    obtain ⟨v, h1, h2⟩ := S.has i _ hs
    exact ⟨v, h1, L.rt v (.dat d) H S.oldH (dv_same S.sub.same h2) q⟩
  · rename_i ds hs
    obtain ⟨v, h1, h2⟩ := S.has i _ hs
    obtain ⟨a, vs, rfl, h3, h4, h5⟩ := h2
    exact ⟨_, h1, L.rt _ (.own ds) H S.oldH (ret_of_own (S.old.free h3) h3 S.sub h4 h5) q⟩
  · exact q.elim
noncomputable def dDrop (de : DE) (e : DEnds) (δ : DEn) : Prop := de e.ex δ fun _ => e.nx δ
theorem sv_expr (h : BvD K H₀ E te de) : SvD K H₀ E (tDrop te) (dDrop de) := fun δ σ G H e D hx S q L =>
  h e.ex δ σ G H _ _ hx S q fun v d G' H' x hd qd => L.nx δ σ G' H' x.g (S.ext x) qd
noncomputable def dIfS (dt : DT) (d1 d2 : DS) (e : DEnds) (δ : DEn) : Prop := dt e.ex δ fun b => if b = true then d1 e δ else d2 e δ
theorem sv_if (h : TvD K H₀ E tt dt) (h1 : SvD K H₀ E ts ds) (h2 : SvD K H₀ E tz dz) : SvD K H₀ E (tIfS tt ts tz) (dIfS dt ds dz) := fun δ σ G H e D hx S q L =>
  h e.ex δ σ G H _ _ hx S q fun b G' H' x qb => by
    cases b with
    | true => exact h1 δ σ G' H' e D hx (S.ext x) qb (L.mono x.g)
    | false => exact h2 δ σ G' H' e D hx (S.ext x) qb (L.mono x.g)
noncomputable def gvName (i : Nat) (d : PyData) (δ : DEn) (Q : DEn → Prop) : Prop := Q (put (some (.dat d)) i δ)
noncomputable def gvNil (ds : List PyData) (δ : DEn) (Q : DEn → Prop) : Prop := match ds with
  | [] => Q δ
  | _ => False
noncomputable def gvCons (dg : DG) (dgs : DGs) (ds : List PyData) (δ : DEn) (Q : DEn → Prop) : Prop := match ds with
  | d :: r => dg d δ fun δ' => dgs r δ' Q
  | [] => False
noncomputable def gvTup (n : Nat) (dgs : DGs) (d : PyData) (δ : DEn) (Q : DEn → Prop) : Prop := match d with
  | .tuple ds => ds.length = n ∧ dgs ds δ Q
  | _ => False
theorem gv_name (i : Nat) : GvD K H₀ (gName i) [i] (gvName i) := fun v d δ σ G H Qd Q S hd q k =>
  k _ _ (S.setD i hd) ⟨List.length_set, fun j hj => by rw [List.getElem?_set_ne (fun z => hj (by simp [z]))]⟩ q
theorem gs_nil : GsvD K H₀ gNil [] gvNil := fun vs ds δ σ G H Qd Q S hd q k => by
  unfold gvNil at q
  split at q
  · cases hd
    exact ⟨rfl, k δ σ S ⟨rfl, fun _ _ => rfl⟩ q⟩
  · exact q.elim
theorem gs_cons (h1 : GvD K H₀ g ns dg) (h2 : GsvD K H₀ gs ms dgs) : GsvD K H₀ (gCons g gs) (ns ++ ms) (gvCons dg dgs) := fun vs ds δ σ G H Qd Q S hd q k => by
  unfold gvCons at q
  split at q
  · cases hd with
    | cons hd hr =>
      refine ⟨_, _, rfl, h1 _ _ δ σ G H _ _ S hd q fun δ1 σ1 S1 k1 q1 => h2 _ _ δ1 σ1 G H _ _ S1 hr q1 fun δ2 σ2 S2 k2 q2 => k δ2 σ2 S2 ⟨k2.1.trans k1.1, fun j hj => ?_⟩ q2⟩
      rw [k2.2 j (fun z => hj (List.mem_append_right _ z)), k1.2 j (fun z => hj (List.mem_append_left _ z))]
  · exact q.elim
theorem gv_tup {n : Nat} (h : GsvD K H₀ gs ns dgs) : GvD K H₀ (gTup K n gs) ns (gvTup n dgs) := fun v d δ σ G H Qd Q S hd q k => by
  unfold gvTup at q
  split at q
  · obtain ⟨a, vs, rfl, h1, h2⟩ := dv_tuple hd
    exact ⟨a, vs, rfl, sqT_same S.sub.same h1, by rw [h2.len]; exact q.1, h _ _ δ σ G H _ _ S h2 q.2 k⟩
  · exact q.elim
noncomputable def dAsg (de : DE) (dg : DG) (e : DEnds) (δ : DEn) : Prop := de e.ex δ fun d => dg d δ e.nx
theorem sv_asg (h : EvD K H₀ E te de) (hg : GvD K H₀ g ns dg) : SvD K H₀ E (tAsg te g) (dAsg de dg) := fun δ σ G H e D hx S q L =>
  h e.ex δ σ G H _ _ hx S q fun v d G' H' x hd qd => hg v d δ σ G' H' _ _ (S.ext x) hd qd fun δ' σ' S' _ q' => L.nx δ' σ' G' H' x.g S' q'
noncomputable def dSetO (dl : DL) (i : Nat) (e : DEnds) (δ : DEn) : Prop := dl e.ex δ fun ds => e.nx (put (some (.own ds)) i δ)
theorem sv_setO (i : Nat) (h : OvD K H₀ E te dl) : SvD K H₀ E (tAsg te (gName i)) (dSetO dl i) := fun δ σ G H e D hx S q L =>
  h e.ex δ σ G H _ _ hx S q fun a vs ds G' H' x hn hg hh hd qd => L.nx _ _ G' H' x.g (S.setO x i hn hg hh hd) qd
noncomputable def noOwn : DEn → Bool
  | [] => true
  | some (.own _) :: _ => false
  | _ :: r => noOwn r
theorem noOwn_slot : ∀ {δ : DEn} {i : Nat} {ds : List PyData}, noOwn δ = true → slot δ i ≠ some (.own ds)
  | [], _, _, _, h => by cases h
  | some (.own _) :: _, _, _, h, _ => by cases h
  | some (.dat _) :: _, 0, _, _, h => by cases h
  | some (.exc _) :: _, 0, _, _, h => by cases h
  | some (.fz _ _) :: _, 0, _, _, h => by cases h
  | some (.fz _ _) :: r, i + 1, ds, h, e => noOwn_slot (δ := r) (i := i) (ds := ds) h e
  | some (.two _ _) :: _, 0, _, _, h => by cases h
  | some (.two _ _) :: r, i + 1, ds, h, e => noOwn_slot (δ := r) (i := i) (ds := ds) h e
  | none :: _, 0, _, _, h => by cases h
  | some (.exc _) :: r, i + 1, ds, h, e => noOwn_slot (δ := r) (i := i) (ds := ds) h e
  | some (.dat _) :: r, i + 1, ds, h, e => noOwn_slot (δ := r) (i := i) (ds := ds) h e
  | none :: r, i + 1, ds, h, e => noOwn_slot (δ := r) (i := i) (ds := ds) h e
theorem Sees.all2 {G H H' : Hp} {δ : DEn} {σ : L2.St} (S : Sees K H₀ G δ σ H) (h : noOwn δ = true) (sm : Same H H') : Sees K H₀ H' δ σ H' :=
  ⟨S.oldH.trans sm, .refl _, S.len, fun i s e => by
    obtain ⟨v, h1, h2⟩ := S.has i s e
    cases s with
    | dat d => exact ⟨v, h1, dv_same (S.sub.same.trans sm) h2⟩
    | two xs ys => exact h2.elim
    | fz as d => exact ⟨v, h1, FzIs.same (S.sub.same.trans sm) h2⟩
    | exc C =>
      obtain ⟨x, rfl, hx⟩ := h2
      exact ⟨_, h1, x, rfl, sm _ _ (S.sub.same _ _ hx)⟩
    | own ds => exact absurd e (noOwn_slot h), fun i j xs ys a e => absurd e (noOwn_slot h)⟩
noncomputable def dAsgN0 (w : DW) (dl : DL) (dg : DG) (e : DEnds) (δ : DEn) : Prop := dl e.ex δ fun ds => noOwn δ = true ∧ w ds (anyS fun d => dg d δ e.nx) fun _ => False
theorem sv_asgN0 {w : DW} (ha : AvD K H₀ E t dl) (hg : GvD K H₀ g ns dg) : SvD K H₀ E (tAsg (tCall (spW K w) [] E0 t) g) (dAsgN0 w dl dg) := fun δ σ G H e D hx S q L =>
  ha e.ex δ σ G H _ _ hx S q fun vs ds G1 H1 e1 h1 ⟨no, q1⟩ => by
    refine ⟨ds, _, fun _ => False, by rw [List.append_nil]; exact h1, q1, fun v s H2 sm r qs => ?_, fun C H2 sm hc => hc.elim⟩
    obtain ⟨d, hd, q2⟩ := ret_any r qs
    exact hg v d δ σ H2 H2 _ _ ((S.ext e1).all2 no sm) hd q2 fun δ' σ' S' _ q' => L.nx δ' σ' H2 H2 ((S.ext e1).sub.same.trans sm |> fun z => e1.g.trans z) S' q'
noncomputable def frzAt (i : Nat) (δ : DEn) : DEn := match slot δ i with
  | some (.own ds) => put (some (.dat (.list ds))) i δ
  | _ => δ
noncomputable def dFrz (i : Nat) (d : DS) (e : DEnds) (δ : DEn) : Prop := d e (frzAt i δ)
theorem sv_frz (i : Nat) (h : SvD K H₀ E ts ds) : SvD K H₀ E ts (dFrz i ds) := fun δ σ G H e D hx S q L => by
  unfold dFrz frzAt at q
  split at q
  · rename_i xs hs
    obtain ⟨G', s, S'⟩ := S.frz hs
    exact h _ σ G' H e D hx S' q (L.mono s)
  · exact h δ σ G H e D hx S q L
noncomputable def dPar (i j : Nat) (dl : DL) (e : DEnds) (δ : DEn) : Prop := dl e.ex δ fun ds => match ds with
  | [d1, d2] => e.nx (put (some (.dat d2)) j (put (some (.dat d1)) i δ))
  | _ => False
theorem sv_par {n : Nat} (i j : Nat) (h : AvE K H₀ E t n dl) : SvD K H₀ E (tPar i j t) (dPar i j dl) := fun δ σ G H e D hx S q L =>
  h e.ex δ σ G H _ _ hx S q fun vs ds G' H' x hd _ qd => by
    split at qd
    · obtain ⟨v, w, rfl, h1, h2⟩ := dvs2 hd
      exact ⟨v, w, rfl, L.nx _ _ G' H' x.g (((S.ext x).setD i h1).setD j h2) qd⟩
    · exact qd.elim
noncomputable def dRaise (C : Addr) (dl : DL) (e : DEnds) (δ : DEn) : Prop := dl e.ex δ fun _ => e.ex C
theorem sv_raise {C : Addr} {n : Nat} (h : AvE K H₀ E t n dl) (hn : n ≤ 1000) : SvD K H₀ E (tRaise E C t) (dRaise C dl) := fun δ σ G H e D hx S q L =>
  h e.ex δ σ G H _ _ hx S q fun vs ds G' H' x hd q0 qd => ⟨Nat.le_of_lt (small1000 (by rw [hd.len, q0]; exact hn)), hx C H' (S.ext x).oldH qd⟩
noncomputable def dApp (i : Nat) (de : DE) (e : DEnds) (δ : DEn) : Prop := match slot δ i with
  | some (.own ds) => de e.ex δ fun d => ds.length < 1000 ∧ e.nx (put (some (.own (ds ++ [d]))) i δ)
  | _ => False
theorem sv_app (i : Nat) (h : EvD K H₀ E te de) : SvD K H₀ E (tDrop (tBM K "list" rAppend (tVar i) (tCons te tNil))) (dApp i de) := fun δ σ G H e D hx S q L => by
  unfold dApp at q
  split at q
  · rename_i ds hs
    obtain ⟨a, vs, h1, h2, h3, h4⟩ := S.ownAt hs
    refine ⟨_, h1, .inl ⟨rfl, _, SqL.of h3⟩, h e.ex δ σ G H _ _ hx S q fun v d G' H' x hd qd => ?_⟩
    obtain ⟨q1, q2⟩ := qd
    have S' := S.ext x
    exact ⟨a, vs, v, rfl, rfl, x.h _ _ h3, small1000 (by rw [h4.len]; omega), L.nx _ _ G' _ x.g (S'.updO hs h1 ((dvs_same x.g h4).append (.cons hd .nil))) q2⟩
  · exact q.elim
noncomputable def dPutAt (i : Nat) (de dx : DE) (e : DEnds) (δ : DEn) : Prop := de e.ex δ fun d => match slot δ i with
  | some (.own ds) => dx e.ex δ fun y => (match y with
    | .int k => ∃ j, ixN ds.length k = some j ∧ e.nx (put (some (.own (ds.set j d))) i δ)
    | _ => False)
  | _ => False
theorem sv_putAt (i : Nat) (h : EvD K H₀ E te de) (h' : BvD K H₀ E ta da) : SvD K H₀ E (tAsg te (gSub (tVar i) ta rSetL)) (dPutAt i de da) := fun δ σ G H e D hx S q L =>
  h e.ex δ σ G H _ _ hx S q fun v d G' H' x hd qd => by
    split at qd
    · rename_i ds hs
      have S' := S.ext x
      obtain ⟨a, vs, h1, h2, h3, h4⟩ := S'.ownAt hs
      refine ⟨_, h1, h' e.ex δ σ G' H' _ _ hx S' qd fun y dy G2 H2 x2 hy q2 => ?_⟩
      cases dy with
      | int k =>
        obtain ⟨j, hj, q2⟩ := q2
        cases dv_int hy
        have S2 := S'.ext x2
        exact ⟨a, vs, k, j, rfl, rfl, x2.h _ _ h3, by rw [h4.len]; exact hj, L.nx _ _ G2 _ (x.g.trans x2.g) (S2.updO hs h1 ((dvs_same x2.g h4).set (dv_same x2.g hd) j)) q2⟩
      | _ => exact q2.elim
    · exact qd.elim
noncomputable def ItS (K : PySem.W.Frag) (J : It) (G : Hp) (ds : List PyData) : Prop := ∀ G' H', Same G G' → Sub G' H' → ∀ i,
  (∀ d, ds[i]? = some d → J.go i H' ∧ ∀ x H2, J.yld i H' x H2 → ∃ G2, Ext G' H' G2 H2 ∧ DV K G2 x d) ∧ (ds.length ≤ i → J.stop i H')
noncomputable def ItE (K : PySem.W.Frag) (J : It) (G H : Hp) (ds : List PyData) : Prop := ∀ G' H', Ext G H G' H' → ∀ i,
  (∀ d, ds[i]? = some d → J.go i H' ∧ ∀ x H2, J.yld i H' x H2 → ∃ G2, Ext G' H' G2 H2 ∧ DV K G2 x d) ∧ (ds.length ≤ i → J.stop i H')
theorem ItS.e {J : It} {G H : Hp} {ds : List PyData} (h : ItS K J G ds) : ItE K J G H ds := fun G' H' e => h G' H' e.g e.s
noncomputable def IvS (K : PySem.W.Frag) (H₀ : Hp) (E : XK) (wi : TI) (dl : DL) : Prop := ∀ ex δ σ G H Qd R, ExOk H₀ E ex → Sees K H₀ G δ σ H → dl ex δ Qd → (∀ J ds G' H', Ext G H G' H' → ItS K J G' ds → Qd ds → R J H') → wi σ H R
noncomputable def IvE (K : PySem.W.Frag) (H₀ : Hp) (E : XK) (wi : TI) (dl : DL) : Prop := ∀ ex δ σ G H Qd R, ExOk H₀ E ex → Sees K H₀ G δ σ H → dl ex δ Qd → (∀ J ds G' H', Ext G H G' H' → ItE K J G' H' ds → Qd ds → R J H') → wi σ H R
theorem IvS.e {wi : TI} (h : IvS K H₀ E wi dl) : IvE K H₀ E wi dl := fun ex δ σ G H Qd R hx S q k => h ex δ σ G H Qd R hx S q fun J ds G' H' e hi qd => k J ds G' H' e hi.e qd
theorem is_list (h : EvD K H₀ E te de) : IvS K H₀ E (iList K te) (dAsL de) := fun ex δ σ G H Qd R hx S q k =>
  h ex δ σ G H _ _ hx S q fun v d G' H' e hd qd => by
    cases d with
    | list ds =>
      obtain ⟨a, vs, rfl, h1, h2⟩ := dv_list hd
      refine ⟨a, rfl, ⟨vs, e.s.same.seq h1⟩, k _ ds G' H' e (fun G2 H2 s1 s2 i => ⟨fun d hi => ?_, fun hi => ⟨vs, s2.same.seq (s1.seq h1), by rw [h2.len]; exact hi⟩⟩) qd⟩
      obtain ⟨x, g1, g2⟩ := h2.at hi
      refine ⟨⟨vs, x, s2.same.seq (s1.seq h1), g1⟩, fun y H3 ⟨z, w⟩ => ?_⟩
      subst z
      have := w vs (s2.same.seq (s1.seq h1))
      rw [g1] at this
      cases this
      exact ⟨G2, .refl s2, dv_same s1 g2⟩
    | _ => exact qd.elim
theorem ie_list (h : LvD K H₀ E te dl) : IvE K H₀ E (iList K te) dl := fun ex δ σ G H Qd R hx S q k =>
  h ex δ σ G H _ _ hx S q fun a vs ds G' H' e h1 h2 qd => by
    refine ⟨a, rfl, ⟨vs, h1⟩, k _ ds G' H' e (fun G2 H2 e2 i => ⟨fun d hi => ?_, fun hi => ⟨vs, e2.h.seq h1, by rw [h2.len]; exact hi⟩⟩) qd⟩
    obtain ⟨x, g1, g2⟩ := h2.at hi
    refine ⟨⟨vs, x, e2.h.seq h1, g1⟩, fun y H3 ⟨z, w⟩ => ?_⟩
    subst z
    have := w vs (e2.h.seq h1)
    rw [g1] at this
    cases this
    exact ⟨G2, .refl e2.s, dv_same e2.g g2⟩
noncomputable def rngD (lo : Int) (n : Nat) (st : Int) : List PyData := (List.range n).map fun (k : Nat) => PyData.int (lo + (k : Int) * st)
theorem rngD_at {lo st : Int} {n i : Nat} {d : PyData} (h : (rngD lo n st)[i]? = some d) : i < n ∧ d = .int (lo + (i : Int) * st) := by
  unfold rngD at h
  rw [List.getElem?_map] at h
  cases q : (List.range n)[i]? with
  | none => rw [q] at h; cases h
  | some k =>
    rw [q] at h
    obtain ⟨h1, h2⟩ := List.getElem?_eq_some_iff.mp q
    simp only [List.getElem_range] at h2
    subst h2
    simp only [List.length_range] at h1
    simp only [Option.map_some, Option.some.injEq] at h
    exact ⟨h1, h.symm⟩
theorem rngD_len {lo st : Int} {n : Nat} : (rngD lo n st).length = n := by simp [rngD]
noncomputable def dRng1 (dl : DL) (ex : DX) (δ : DEn) (Q : List PyData → Prop) : Prop := dl ex δ fun ds => match ds with
  | [.int j] => (-(2 ^ 62) ≤ j ∧ j < 2 ^ 62) ∧ Q (rngD 0 j.toNat 1)
  | _ => False
noncomputable def dRng2 (dl : DL) (ex : DX) (δ : DEn) (Q : List PyData → Prop) : Prop := dl ex δ fun ds => match ds with
  | [.int i, .int j] => (-(2 ^ 62) ≤ i ∧ i < 2 ^ 62 ∧ -(2 ^ 62) ≤ j ∧ j < 2 ^ 62) ∧ Q (rngD i (j - i).toNat 1)
  | _ => False
theorem itS_r {lo : Int} {n : Nat} {G : Hp} : ItS K (Itr lo n) G (rngD lo n 1) := fun G' H' s1 s2 i => ⟨fun d hi => by
    obtain ⟨h1, rfl⟩ := rngD_at hi
    refine ⟨h1, fun x H2 ⟨e1, e2⟩ => ?_⟩
    subst e1 e2
    rw [Int.mul_one]
    exact ⟨G', .refl s2, .int _⟩, fun hi => by rw [rngD_len] at hi; exact hi⟩
theorem is_rng1 (h : AvD K H₀ E t dl) : IvS K H₀ E (iRng1 t) (dRng1 dl) := fun ex δ σ G H Qd R hx S q k =>
  h ex δ σ G H _ _ hx S q fun vs ds G' H' e hd qd => by
    split at qd
    · obtain ⟨x, rfl, h1⟩ := dvs1 hd
      cases dv_int h1
      exact ⟨_, rfl, qd.1.1, qd.1.2, k _ _ G' H' e itS_r qd.2⟩
    · exact qd.elim
theorem is_rng2 (h : AvD K H₀ E t dl) : IvS K H₀ E (iRng2 t) (dRng2 dl) := fun ex δ σ G H Qd R hx S q k =>
  h ex δ σ G H _ _ hx S q fun vs ds G' H' e hd qd => by
    split at qd
    · obtain ⟨x, y, rfl, h1, h2⟩ := dvs2 hd
      cases dv_int h1; cases dv_int h2
      exact ⟨_, _, rfl, qd.1, k _ _ G' H' e itS_r qd.2⟩
    · exact qd.elim
noncomputable def dFor (dl : DL) (dg : DG) (db : DS) (e : DEnds) (δ : DEn) : Prop := dl e.ex δ fun ds => ∃ I : Nat → DEn → Prop, I 0 δ ∧
  (∀ i d δ', ds[i]? = some d → I i δ' → dg d δ' fun δ2 => db { e with nx := I (i + 1), ct := I (i + 1), bk := e.nx } δ2) ∧ ∀ δ', I ds.length δ' → e.nx δ'
theorem sv_for {wi : TI} (hi : IvS K H₀ E wi dl) (hg : GvD K H₀ g ns dg) (hb : SvD K H₀ E ts ds) : SvD K H₀ E (tFor wi g ts) (dFor dl dg ds) := fun δ σ G H e D hx S q L =>
  hi e.ex δ σ G H _ _ hx S q fun J xs G1 H1 e1 it ⟨I, i0, step, fin⟩ => by
    refine ⟨fun i m σ H => m = xs.length - i ∧ i ≤ xs.length ∧ ∃ δ' G', Same G1 G' ∧ Sees K H₀ G' δ' σ H ∧ I i δ', ⟨_, rfl, Nat.zero_le _, δ, G1, Same.refl _, S.ext e1, i0⟩, ?_⟩
    rintro i m σ' H' ⟨rfl, hil, δ', G', sg, S', hI⟩
    obtain ⟨t1, t2⟩ := it G' H' sg S'.sub i
    by_cases hlt : i < xs.length
    · obtain ⟨g1, g2⟩ := t1 _ (List.getElem?_eq_getElem hlt)
      refine .inr ⟨g1, fun σ H => ∃ δ' G', Same G1 G' ∧ Sees K H₀ G' δ' σ H ∧ I (i + 1) δ', fun σ2 H2 z => ⟨_, by omega, rfl, hlt, z⟩, fun x H2 y => ?_⟩
      obtain ⟨G2, e2, hd⟩ := g2 x H2 y
      have S2 := S'.ext e2
      refine hg x _ δ' σ' G2 H2 _ _ S2 hd (step i _ δ' (List.getElem?_eq_getElem hlt) hI) fun δ3 σ3 S3 _ q3 => ?_
      have up : Same G1 G2 := sg.trans e2.g
      exact hb δ3 σ3 G2 H2 { e with nx := I (i + 1), ct := I (i + 1), bk := e.nx } _ hx S3 q3 ⟨fun δ4 σ4 G4 H4 s4 S4 q4 => ⟨δ4, G4, up.trans s4, S4, q4⟩, L.rt, fun δ4 σ4 G4 H4 s4 S4 q4 => L.nx δ4 σ4 G4 H4 (e1.g.trans (up.trans s4)) S4 q4, fun δ4 σ4 G4 H4 s4 S4 q4 => ⟨δ4, G4, up.trans s4, S4, q4⟩⟩
    · have : i = xs.length := by omega
      subst this
      exact .inl ⟨t2 (Nat.le_refl _), L.nx δ' σ' G' H' (e1.g.trans sg) S' (fin δ' hI)⟩
noncomputable def dWhile (dt : DT) (db : DS) (e : DEnds) (δ : DEn) : Prop := ∃ I : Nat → DEn → Prop, (∃ m, I m δ) ∧ ∀ m δ', I m δ' →
  dt e.ex δ' fun b => if b = true then db { e with nx := fun δ2 => ∃ k, k < m ∧ I k δ2, ct := fun δ2 => ∃ k, k < m ∧ I k δ2, bk := e.nx } δ' else e.nx δ'
theorem sv_while (h : TvD K H₀ E tt dt) (hb : SvD K H₀ E ts ds) : SvD K H₀ E (tWhile tt ts) (dWhile dt ds) := fun δ σ G H e D hx S ⟨I, ⟨m0, i0⟩, step⟩ L => by
  refine ⟨fun m σ H => ∃ δ' G', Same G G' ∧ Sees K H₀ G' δ' σ H ∧ I m δ', ⟨m0, δ, G, Same.refl _, S, i0⟩, ?_⟩
  rintro m σ' H' ⟨δ', G', sg, S', hI⟩
  refine h e.ex δ' σ' G' H' _ _ hx S' (step m δ' hI) fun b G2 H2 e2 q2 => ?_
  have S2 := S'.ext e2
  have up : Same G G2 := sg.trans e2.g
  cases b with
  | true =>
    have n1 : ∀ δ4 σ4 G4 H4, Same G2 G4 → Sees K H₀ G4 δ4 σ4 H4 → (∃ k, k < m ∧ I k δ4) → ∃ k, k < m ∧ ∃ δ' G', Same G G' ∧ Sees K H₀ G' δ' σ4 H4 ∧ I k δ' := fun δ4 σ4 G4 H4 s4 S4 ⟨k, hk, q4⟩ => ⟨k, hk, δ4, G4, up.trans s4, S4, q4⟩
    exact ⟨fun σ4 H4 => ∃ k, k < m ∧ ∃ δ' G', Same G G' ∧ Sees K H₀ G' δ' σ4 H4 ∧ I k δ', fun _ _ z => z, hb δ' σ' G2 H2 { e with nx := fun δ2 => ∃ k, k < m ∧ I k δ2, ct := fun δ2 => ∃ k, k < m ∧ I k δ2, bk := e.nx } _ hx S2 q2 ⟨n1, L.rt, fun δ4 σ4 G4 H4 s4 S4 q4 => L.nx δ4 σ4 G4 H4 (up.trans s4) S4 q4, n1⟩⟩
  | false => exact L.nx δ' σ' G2 H2 up S2 q2
noncomputable def capD (cap : List (Option Nat)) (δ : DEn) : DEn := match cap with
  | [] => []
  | none :: r => none :: capD r δ
  | some i :: r => slot δ i :: capD r δ
theorem capD_len : ∀ (cap : List (Option Nat)) (δ : DEn), (capD cap δ).length = cap.length
  | [], _ => rfl
  | none :: r, δ => by simp [capD, capD_len r δ]
  | some i :: r, δ => by simp [capD, capD_len r δ]
theorem capD_slot : ∀ {cap : List (Option Nat)} {δ : DEn} {j : Nat} {s : Sl}, slot (capD cap δ) j = some s → ∃ i, cap[j]? = some (some i) ∧ slot δ i = some s
  | [], _, _, _, h => by cases h
  | none :: r, δ, 0, s, h => by cases h
  | some i :: r, δ, 0, s, h => ⟨i, rfl, h⟩
  | none :: r, δ, j + 1, s, h => by
    obtain ⟨i, h1, h2⟩ := capD_slot (cap := r) (δ := δ) (j := j) h
    exact ⟨i, by simpa using h1, h2⟩
  | some _ :: r, δ, j + 1, s, h => by
    obtain ⟨i, h1, h2⟩ := capD_slot (cap := r) (δ := δ) (j := j) h
    exact ⟨i, by simpa using h1, h2⟩
theorem cap_mem {cap : List (Option Nat)} {j i : Nat} (h : cap[j]? = some (some i)) : i ∈ cap.filterMap id := List.mem_filterMap.mpr ⟨some i, List.mem_of_getElem? h, rfl⟩
theorem cap_inj : ∀ {cap : List (Option Nat)} {j k i : Nat}, (cap.filterMap id).Nodup → cap[j]? = some (some i) → cap[k]? = some (some i) → j = k
  | [], _, _, _, _, h, _ => by simp at h
  | none :: r, 0, _, _, _, h, _ => by simp at h
  | none :: r, _ + 1, 0, _, _, _, h => by simp at h
  | none :: r, j + 1, k + 1, i, n, h1, h2 => congrArg (· + 1) (cap_inj (cap := r) (by simpa using n) (by simpa using h1) (by simpa using h2))
  | some a :: r, 0, 0, _, _, _, _ => rfl
  | some a :: r, 0, k + 1, i, n, h1, h2 => by
    have e : a = i := by simpa using h1
    subst e
    have : a ∈ r.filterMap id := cap_mem (by simpa using h2)
    simp only [List.filterMap_cons, id, List.nodup_cons] at n
    exact absurd this n.1
  | some a :: r, j + 1, 0, i, n, h1, h2 => by
    have e : a = i := by simpa using h2
    subst e
    have : a ∈ r.filterMap id := cap_mem (by simpa using h1)
    simp only [List.filterMap_cons, id, List.nodup_cons] at n
    exact absurd this n.1
  | some a :: r, j + 1, k + 1, i, n, h1, h2 => congrArg (· + 1) (cap_inj (cap := r) (by
      simp only [List.filterMap_cons, id, List.nodup_cons] at n
      exact n.2) (by simpa using h1) (by simpa using h2))
noncomputable def CapSt (cap : List (Option Nat)) (σ σc : L2.St) : Prop := σc.length = cap.length ∧ ∀ (j i : Nat), cap[j]? = some (some i) → σc[j]? = some ((σ[i]?).bind id)
theorem capst0 {cap : List (Option Nat)} {σ : L2.St} : CapSt cap σ (capσ cap σ) := ⟨by simp [capσ], fun j i h => by
  unfold capσ
  rw [List.getElem?_map, h]
  rfl⟩
theorem capSees {cap : List (Option Nat)} {G H G' H' : Hp} {δ : DEn} {σ σc : L2.St} (S : Sees K H₀ G δ σ H) (e : Ext G H G' H') (hn : (cap.filterMap id).Nodup) (c : CapSt cap σ σc) : Sees K H₀ G' (capD cap δ) σc H' := by
  have S' := S.ext e
  refine ⟨S'.old, S'.sub, by rw [capD_len, c.1]; exact Nat.le_refl _, fun j s h => ?_, fun j k xs ys a h1 h2 e1 e2 => ?_⟩
  · obtain ⟨i, h1, h2⟩ := capD_slot h
    obtain ⟨v, h3, h4⟩ := S'.has i s h2
    refine ⟨v, ?_, h4⟩
    rw [c.2 j i h1, h3]
    rfl
  · obtain ⟨i, g1, g2⟩ := capD_slot h1
    obtain ⟨i', g3, g4⟩ := capD_slot h2
    obtain ⟨b, _, q1, _⟩ := S'.ownAt g2
    obtain ⟨b', _, q2, _⟩ := S'.ownAt g4
    rw [c.2 j i g1, q1] at e1
    rw [c.2 k i' g3, q2] at e2
    have z1 : b = a := by cases e1; rfl
    have z2 : b' = a := by cases e2; rfl
    subst z1; subst z2
    have := S'.sep i i' xs ys _ g2 g4 q1 q2
    subst this
    exact cap_inj hn g1 g3
noncomputable def dYes (_ex : DX) (_δ : DEn) (Q : Bool → Prop) : Prop := Q true
theorem tv_yes : TvD K H₀ E tYes dYes := fun ex δ σ G H Qd Q hx S q k => k true G H S.refl q
noncomputable def dLC (dl : DL) (cap : List (Option Nat)) (dg : DG) (dt : DT) (de : DE) (ex : DX) (δ : DEn) (Q : List PyData → Prop) : Prop := dl ex δ fun ds => ds.length ≤ 1000 ∧ ∃ I : Nat → List PyData → Prop, I 0 [] ∧
  (∀ i d acc, ds[i]? = some d → I i acc → dg d (capD cap δ) fun δ2 => dt (fun _ => False) δ2 fun b => if b = true then de (fun _ => False) δ2 fun y => I (i + 1) (acc ++ [y]) else I (i + 1) acc) ∧ ∀ acc, I ds.length acc → Q acc
theorem ov_lc {wi : TI} {cap : List (Option Nat)} (hi : IvE K H₀ E wi dl) (hg : GvD K H₀ g ns dg) (ht : TvD K H₀ E tt dt) (he : EvD K H₀ E te de) (hn : (cap.filterMap id).Nodup) (hns : ns.all (fun j => (cap[j]?.bind id).isNone) = true) : OvD K H₀ E (tLC wi cap g tt te) (dLC dl cap dg dt de) := fun ex δ σ G H Qd Q hx S q k =>
  hi ex δ σ G H _ _ hx S q fun J xs G1 H1 e1 it ⟨hlen, I, i0, step, fin⟩ => by
    intro D hD
    obtain ⟨eD, gD⟩ := ext_newL (xs := []) e1.s hD
    refine ⟨fun i m σc Hc => m = xs.length - i ∧ i ≤ xs.length ∧ CapSt cap σ σc ∧ ∃ G' acc ys, Ext G1 H1 G' Hc ∧ G' D = none ∧ Hc D = some (.lst ys) ∧ DVs K G' ys acc ∧ acc.length ≤ i ∧ I i acc,
      ⟨_, rfl, Nat.zero_le _, capst0, G1, [], [], eD, gD, upd_same, .nil, Nat.le_refl _, i0⟩, ?_⟩
    rintro i m σc Hc ⟨rfl, hil, cs, G', acc, ys, e', gd, hd, hv, hal, hI⟩
    obtain ⟨t1, t2⟩ := it G' Hc e' i
    by_cases hlt : i < xs.length
    · obtain ⟨g1, g2⟩ := t1 _ (List.getElem?_eq_getElem hlt)
      refine .inr ⟨g1, fun σ2 H2 => CapSt cap σ σ2 ∧ ∃ G' acc ys, Ext G1 H1 G' H2 ∧ G' D = none ∧ H2 D = some (.lst ys) ∧ DVs K G' ys acc ∧ acc.length ≤ i + 1 ∧ I (i + 1) acc, fun σ2 H2 z => ⟨_, by omega, rfl, hlt, z⟩, fun x H2 y => ?_⟩
      obtain ⟨G2, e2, hx2⟩ := g2 x H2 y
      have S2 : Sees K H₀ G2 (capD cap δ) σc H2 := capSees S (e1.trans (e'.trans e2)) hn cs
      refine hg x _ _ σc G2 H2 _ _ S2 hx2 (step i _ acc (List.getElem?_eq_getElem hlt) hI) fun δ3 σ3 S3 kp q3 => ?_
      have cs3 : CapSt cap σ σ3 := ⟨kp.1.trans cs.1, fun j z hj => by
        rw [kp.2 j (fun hm => by
          have := List.all_eq_true.mp hns j hm
          rw [hj] at this
          cases this)]
        exact cs.2 j z hj⟩
      refine ht (fun _ => False) δ3 σ3 G2 H2 _ _ exok0 S3 q3 fun b G4 H4 e4 q4 => ?_
      cases b with
      | true =>
        refine he (fun _ => False) δ3 σ3 G4 H4 _ _ exok0 (S3.ext e4) q4 fun y dy G5 H5 e5 hy q5 => ?_
        have e25 : Ext G' Hc G5 H5 := e2.trans (e4.trans e5)
        have gd5 : G5 D = none := e25.keep gd hd
        have hd5 : H5 D = some (.lst ys) := e25.h _ _ hd
        have e15 : Ext G1 H1 G5 H5 := e'.trans e25
        refine ⟨ys, hd5, small1000 (by rw [hv.len]; omega), cs3, G5, acc ++ [dy], ys ++ [y], ⟨e15.g, fun b o z => ?_, fun b => ?_, e15.n⟩, gd5, upd_same, (dvs_same e25.g hv).append (.cons hy .nil), by rw [List.length_append]; simp; exact hal, q5⟩
        · rw [upd_ne (ne_of_none z hD)]; exact e15.h b o z
        · by_cases w : b = D
          · subst w; exact .inr ⟨gd5, _, upd_same⟩
          · rw [upd_ne w]; exact e15.s b
      | false =>
        have e24 : Ext G' Hc G4 H4 := e2.trans e4
        exact ⟨cs3, G4, acc, ys, e'.trans e24, e24.keep gd hd, e24.h _ _ hd, dvs_same e24.g hv, Nat.le_succ_of_le hal, q4⟩
    · have : i = xs.length := by omega
      subst this
      exact .inl ⟨t2 (Nat.le_refl _), k D ys acc G' Hc (e1.trans e') (e1.h.free hD) gd hd hv (fin acc hI)⟩
end
noncomputable def startN : List Str → List PyData → DEn
  | [], _ => []
  | _ :: N, [] => none :: startN N []
  | _ :: N, d :: ds => some (.dat d) :: startN N ds
theorem startN_len : ∀ (N : List Str) (ds : List PyData), (startN N ds).length = N.length
  | [], _ => rfl
  | _ :: N, [] => congrArg (· + 1) (startN_len N [])
  | _ :: N, _ :: ds => congrArg (· + 1) (startN_len N ds)
theorem startN_slot : ∀ {N : List Str} {ds : List PyData} {i : Nat} {s : Sl}, slot (startN N ds) i = some s → ∃ d, ds[i]? = some d ∧ s = .dat d
  | [], _, _, _, h => by cases h
  | _ :: N, [], 0, _, h => by cases h
  | _ :: N, [], i + 1, s, h => by
    obtain ⟨d, h1, _⟩ := startN_slot (N := N) (ds := []) (i := i) h
    simp at h1
  | _ :: N, d :: ds, 0, s, h => by cases h; exact ⟨d, rfl, rfl⟩
  | _ :: N, _ :: ds, i + 1, s, h => by
    obtain ⟨d, h1, h2⟩ := startN_slot (N := N) (ds := ds) (i := i) h
    exact ⟨d, by simpa using h1, h2⟩
theorem sees_start {K : PySem.W.Frag} {H : Hp} {N : List Str} {vs : List V} {ds : List PyData} (h : DVs K H vs ds) : Sees K H H (startN N ds) (L2.start N vs) H := by
  refine ⟨Same.refl _, .refl _, ?_, fun i s e => ?_, fun i j xs ys a e => ?_⟩
  · rw [startN_len]
    simp only [L2.start, List.length_append, List.length_map, List.length_replicate]
    omega
  · obtain ⟨d, h1, rfl⟩ := startN_slot e
    obtain ⟨v, h2, h3⟩ := h.at h1
    refine ⟨v, ?_, h3⟩
    unfold L2.start
    rw [List.getElem?_append_left (by rw [List.length_map]; exact (List.getElem?_eq_some_iff.mp h2).1), List.getElem?_map, h2]
    rfl
  · obtain ⟨d, _, z⟩ := startN_slot e
    cases z
section
variable {P : Program} {w : World} {K : PySem.W.Frag} {mg : Str → Option Value} {base : Heap}
theorem okW {x qual : Str} {st : Stmt} {f : Addr} {fd : FuncData} {N ps : List Str} {k : Nat} {W : DW} (F : Fun K x qual st f fd) (S : FnScope N ps (defScope st)) (len : ∀ ds Q E, W ds Q E → ds.length = ps.length)
    (hbody : ∀ (cdv : Value) (A : Around) (outer : List Env) (s : Shared) (H : Hp) (E : XK), Room k (A.deeper (envOfC qual (defScope st) s.heap.objs.size f cdv)) →
      ∃ t, PSs (cxOf (CXE P w) P w K mg base N qual (defScope st) f cdv A outer s H E) (defBody st) t ∧ ∃ d, SvD K H E t d ∧ ∀ ds Q X, W ds Q X → d { nx := fun _ => Q (.dat .none), rt := Q, ex := X } (startN N ds)) : FnOk P w K mg base (CXE P w) (k + 1) f fd ps (spW K W) := by
  refine okE F S (fun vs H Q E h => ?_) (fun cdv A outer s H vs Q E hr h => ?_)
  · obtain ⟨ds, Qd, Ed, h1, h2, _⟩ := h
    rw [h1.len]; exact len _ _ _ h2
  · obtain ⟨ds, Qd, Ed, h1, h2, h3, h4⟩ := h
    obtain ⟨t, ht, d, hd, hq⟩ := hbody cdv A outer s H E hr
    refine ⟨t, ht, hd _ _ H H { nx := fun _ => Qd (.dat .none), rt := Qd, ex := Ed } _ h4 (sees_start h1) (hq ds Qd Ed h2) ⟨fun δ σ G H' _ S q => ?_, fun v s H' sm r q => h3 v s H' sm r q, fun _ _ _ _ _ _ z => z.elim, fun _ _ _ _ _ _ z => z.elim⟩⟩
    exact h3 .non (.dat .none) H' S.oldH .non q
end
noncomputable def kinds : List String := ["int", "bool", "str", "list", "tuple"]
theorem kit_of {K : PySem.W.Frag} (d : PyData) (n : String) (hn : kinds.contains n = true) : PySem.W.kitOne K (.type (tyD d)) (.type n) = some (isD n d) := by
  have hm : n = "int" ∨ n = "bool" ∨ n = "str" ∨ n = "list" ∨ n = "tuple" := by
    simpa [kinds] using hn
  have ht : tyD d = "NoneType" ∨ tyD d = "bool" ∨ tyD d = "int" ∨ tyD d = "str" ∨ tyD d = "list" ∨ tyD d = "tuple" ∨ tyD d = "dict" := by
    cases d <;> simp [tyD]
  have key : ∀ t n : String, t ≠ n → (PySem.W.kitOne K (.type t) (.type n) = PySem.W.kitCls K (.type t) (.type n)) := fun t n h => by
    unfold PySem.W.kitOne
    rw [if_neg (by simpa using h)]
  have same : ∀ n : String, PySem.W.kitOne K (.type n) (.type n) = some true := fun n => by
    unfold PySem.W.kitOne
    rw [if_pos (by simp)]
  unfold isD
  generalize tyD d = t at ht
  clear hn
  rcases ht with rfl | rfl | rfl | rfl | rfl | rfl | rfl <;> rcases hm with rfl | rfl | rfl | rfl | rfl <;>
    first
    | exact same _
    | (rw [key _ _ (by decide)]
       unfold PySem.W.kitCls PySem.W.subIn
       dsimp only
       rw [if_pos (by decide +kernel)]
       decide +kernel)
section
variable {X : Cx} {pins : List (Addr × Obj)} {σ : L2.St} {H : Hp} {s : Shared}
theorem isi_dv {A : Around} {Q : Value → Shared → Prop} {Ee : Value → Shared → Prop} {x : V} {d : PyData} {u c : Value} {b : Bool} (I : Inv X pins σ H s) (rx : RelV x u) (h : DV X.K H x d) (e : PySem.W.kitOne X.K (.type (tyD d)) c = some b) (hq : ∀ tk, Q (.bool b) { s with toks := tk }) :
    wpAny (model X.prog X.w) A (call (.builtin "isinstance") [u, c]) Q Ee s := by
  cases h with
  | non => exact isinst_ok I rx .non e hq
  | bl y => exact isinst_ok I rx (.bl y) e hq
  | int y => exact isinst_ok I rx (.int y) e hq
  | str y => exact isinst_ok I rx (.str y) e hq
  | @lst a xs ds hs hd =>
    cases (show u = Value.ref a from rx)
    obtain ⟨its, r, ⟨o, n, ho, hc, _, _⟩, _⟩ := I.list hs
    exact PySem.W.kia_one PySem.W.kitx_list I.kIn ⟨o, ho, hc⟩ e (fun z => nomatch z) hq
  | @tup a xs ds hs hd =>
    cases (show u = Value.ref a from rx)
    obtain ⟨its, r, ⟨o, ho, hc, n, _⟩, _⟩ := I.tuple hs
    exact PySem.W.kia_one PySem.W.kitx_tuple I.kIn ⟨o, ho, hc⟩ e (fun z => nomatch z) hq
  | dct hd => exact isinst_ok I rx (.dK hd) e hq
noncomputable def rIsi (K : PySem.W.Frag) : List V → Hp → VK → Prop := fun xs H Q => ∃ x d n, xs = [x, .ty n] ∧ kinds.contains n = true ∧ DV K H x d ∧ Q (.bl (isD n d)) H
theorem isiDK {K : PySem.W.Frag} (hK : X.K = K) : CallR X (.builtin "isinstance") (rIsi K) := by
  subst hK
  intro pins s σ H xs us Q I r h
  obtain ⟨x, d, n, rfl, hn, hd, q⟩ := h
  obtain ⟨u, v, rfl, ru, rv⟩ := vals2 r
  cases (show v = Value.type n from rv)
  exact isi_dv I ru hd (kit_of d n hn) fun tk => ⟨.bl _, H, I.tok tk, rfl, q⟩
end
section
variable {K : PySem.W.Frag} {H₀ : Hp} {E : XK} {te ta tb : TE} {da db de : DE} {dl dk : DL} {t : TA}
noncomputable def dIsi (n : String) (de : DE) (ex : DX) (δ : DEn) (Q : PyData → Prop) : Prop := de ex δ fun d => Q (.bool (isD n d))
theorem ev_isi {n : String} (hn : kinds.contains n = true) (h : BvD K H₀ E te de) : EvD K H₀ E (tCB (rIsi K) (tCons te (tCons (tC (.ty n)) tNil))) (dIsi n de) := fun ex δ σ G H Qd Q hx S q k =>
  h ex δ σ G H _ _ hx S q fun x d G1 H1 e1 h1 q1 => ⟨x, d, n, rfl, hn, h1, k _ _ G1 H1 e1 (.bl _) q1⟩
noncomputable def MvD (K : PySem.W.Frag) (H₀ : Hp) (E : XK) (te : TE) (dl : DL) : Prop := ∀ ex δ σ G H Qd Q, ExOk H₀ E ex → Sees K H₀ G δ σ H → dl ex δ Qd → (∀ a vs ds G' H', Ext G H G' H' → H' a = some (.lst vs) → DVs K G' vs ds → Qd ds → Q (.ref a) H') → te σ H Q
theorem mv_ov (h : OvD K H₀ E te dl) : MvD K H₀ E te dl := fun ex δ σ G H Qd Q hx S q k =>
  h ex δ σ G H _ Q hx S q fun a vs ds G' H' e hn hg hh hd qd => k a vs ds G' H' e hh hd qd
end
section
variable {dl : DL} {dg : DG} {db d1 d2 : DS} {e : DEnds} {δ : DEn}
theorem seq_mk (h : d1 { e with nx := d2 e } δ) : dSeq d1 d2 e δ := h
theorem cut_mk (I : DEn → Prop) (h : d1 { e with nx := I } δ) (k : ∀ δ', I δ' → d2 e δ') : dCut d1 d2 e δ := ⟨I, h, k⟩
theorem for_map {α : Type} (f : α → PyData) (xs : List α) (hl : ∀ Q, Q (xs.map f) → dl e.ex δ Q) (I : Nat → DEn → Prop) (h0 : I 0 δ)
    (hs : ∀ i x δ', xs[i]? = some x → I i δ' → dg (f x) δ' fun δ2 => db { e with nx := I (i + 1), ct := I (i + 1), bk := e.nx } δ2) (hd : ∀ δ', I xs.length δ' → e.nx δ') : dFor dl dg db e δ :=
  hl _ ⟨I, h0, fun i d δ' hi hI => by
    rw [List.getElem?_map] at hi
    cases q : xs[i]? with
    | none => rw [q] at hi; cases hi
    | some x =>
      rw [q] at hi
      cases hi
      exact hs i x δ' q hI, fun δ' hI => hd δ' (by rw [List.length_map] at hI; exact hI)⟩
theorem for_rng {lo st : Int} {n : Nat} (hl : ∀ Q, Q (rngD lo n st) → dl e.ex δ Q) (I : Nat → DEn → Prop) (h0 : I 0 δ)
    (hs : ∀ i δ', i < n → I i δ' → dg (.int (lo + (i : Int) * st)) δ' fun δ2 => db { e with nx := I (i + 1), ct := I (i + 1), bk := e.nx } δ2) (hd : ∀ δ', I n δ' → e.nx δ') : dFor dl dg db e δ :=
  hl _ ⟨I, h0, fun i d δ' hi hI => by
    obtain ⟨h1, rfl⟩ := rngD_at hi
    exact hs i δ' h1 hI, fun δ' hI => hd δ' (by rw [rngD_len] at hI; exact hI)⟩
variable {dt : DT} {de : DE} {cap : List (Option Nat)} {ex : DX} {Q : List PyData → Prop}
theorem lc_map {α β : Type} (f : α → PyData) (g : β → PyData) (F : α → List β) (xs : List α) (hlen : xs.length ≤ 1000) (hl : ∀ Q, Q (xs.map f) → dl ex δ Q)
    (hs : ∀ x ∈ xs, ∀ N : List PyData → Prop, ∀ acc, N (acc ++ (F x).map g) → dg (f x) (capD cap δ) fun δ2 => dt (fun _ => False) δ2 fun b => if b = true then de (fun _ => False) δ2 fun y => N (acc ++ [y]) else N acc)
    (hd : Q ((xs.flatMap F).map g)) : dLC dl cap dg dt de ex δ Q :=
  hl _ ⟨by rw [List.length_map]; exact hlen, fun i acc => acc = ((xs.take i).flatMap F).map g, by simp, fun i d acc hi hI => by
    rw [List.getElem?_map] at hi
    cases q : xs[i]? with
    | none => rw [q] at hi; cases hi
    | some x =>
      rw [q] at hi
      cases hi
      subst hI
      refine hs x (List.mem_of_getElem? q) (fun acc => acc = ((xs.take (i + 1)).flatMap F).map g) _ ?_
      have e : xs.take (i + 1) = xs.take i ++ [x] := by
        rw [List.take_add_one, q]; rfl
      rw [e]
      simp, fun acc hI => by
    subst hI
    rw [List.length_map, List.take_of_length_le (Nat.le_refl _)]
    exact hd⟩
end
noncomputable abbrev DXS := DEn → Addr → Prop
noncomputable abbrev DSX := DEnds → DXS → DEn → Prop
structure LkX (K : PySem.W.Frag) (H₀ G : Hp) (xd : DXS) (XE : XS) : Prop where
  ex : ∀ δ σ C G' H, Same G G' → Sees K H₀ G' δ σ H → xd δ C → XE σ (.ref C) none H
noncomputable abbrev nox (e : DEnds) : DEnds := { e with ex := fun _ => False }
theorem Lk.nox {K : PySem.W.Frag} {H₀ G : Hp} {e : DEnds} {D : Ends} (L : Lk K H₀ G e D) : Lk K H₀ G (nox e) D := ⟨L.nx, L.rt, L.bk, L.ct⟩
section
variable {K : PySem.W.Frag} {H₀ : Hp} {E : XK} {t : TA} {dl : DL} {ts : TS} {ds : DS} {tb tc : TSX} {db dc : DSX} {tt : TT} {dt : DT}
end
section
variable {K : PySem.W.Frag} {H₀ : Hp} {E : XK} {t : TA} {dl : DL} {ts : TS} {ds : DS} {tb tc : TSX} {db dc : DSX}
end
noncomputable def wLaw : DW := fun ds Q _ => ∃ ns : List Int, ds = [.list (ns.map .int)] ∧ ns.length ≤ 63 ∧ (∀ v ∈ ns, Builtin.Int.intBits v ≤ 1048576) ∧ Q (.dat (.bool true))
theorem dvs_of_ints {K : PySem.W.Frag} {H : Hp} : ∀ ns : List Int, DVs K H (ns.map V.int) (ns.map PyData.int)
  | [] => .nil
  | n :: ns => .cons (.int n) (dvs_of_ints ns)
theorem law_of {P : Program} {w : World} {K : PySem.W.Frag} {mg : Str → Option Value} {base : Heap} {k : Nat} {f : Addr} {fd : FuncData} {ps : List Str} (F : FnOk P w K mg base (CXE P w) k f fd ps (spW K wLaw)) : FnOk P w K mg base (CXE P w) k f fd ps (spLaw K) :=
  F.imp fun vs H Q E ⟨a, ns, e, hS, hl, hb, _, q⟩ => by
    subst e
    refine ⟨[.list (ns.map .int)], fun s => s = .dat (.bool true), fun _ => False, .cons (.lst hS (dvs_of_ints ns)) .nil, ⟨ns, rfl, hl, hb, rfl⟩, fun v s H' _ r hs => ?_, fun _ _ _ z => z.elim⟩
    subst hs
    cases dv_bl r
    exact q H'
section
variable {X : Cx} {pins : List (Addr × Obj)} {σ : L2.St} {H : Hp} {s : Shared} {h' : Heap}
theorem inv_turnedAll {t' : Nat} {ws : List Addr} (I : Inv X pins σ H s) (k : ∀ b o, b ∉ ws → s.heap.get? b = some o → h'.get? b = some o) (f : ∀ b ∈ ws, FpOk X pins H b) : Inv X pins σ H { s with heap := h', toks := t' } := by
  have nit : ∀ b u, H b = some u → b ∉ ws := fun b u e z => by rw [(f b z).1] at e; cases e
  refine I.step (g' := s.gens) (d' := s.drawn) (ch := ws) (fun b hb => ⟨(f b hb).2.2.2.1, (f b hb).2.1, (f b hb).2.2.2.2.1, (f b hb).2.2.2.2.2⟩) (fun b o _ _ hc e _ => k b o hc e) (fun b o _ _ hc e _ => ⟨o.slots, k b o hc e⟩) (fun _ _ _ _ n => n)
    (fun b o hc e => ⟨o, k b o hc e⟩) (fun _ _ e => e) (fun _ _ _ e => e) (fun b ps e => ⟨#[], by rw [e]; simp⟩) (fun m hm => ?_) (fun b u e => ?_) I.bare
  · obtain ⟨o, es, ep, ho, r⟩ := hm
    exact ⟨o, es, ep, k _ o (fun z => (f _ z).2.1 rfl) ho, r⟩
  · refine (I.hok b u e).stay (fun c v hc q => k c v ?_ q) (fun _ q => q) fun _ _ q => q
    rcases hc with z | z
    · rw [z]; exact nit b u e
    · exact nit c _ z
theorem inv_tup {T : Addr} {xs : List V} {its : List Value} (I : Inv X pins σ H s) (f : FpOk X pins H T) (h0 : X.s₀.heap.objs.size ≤ T) (hT : s.heap.IsTuple T its.toArray) (r : Vals xs its) (hz : xs.length ≤ sizeLine) : Inv X pins σ (upd H T (.tup xs)) s := by
  obtain ⟨f0, f1, f2, f3, f4, f5⟩ := f
  have neH : ∀ b o, H b = some o → b ≠ T := fun b o e z => by rw [z, f0] at e; cases e
  refine ⟨I.ok, I.os, I.bare, ⟨I.base.keep, I.base.slot, fun b o e n hb => ?_, I.base.there, fun b xs e => ?_, fun b o u e => ?_, fun b ps e => ?_⟩, I.loc, I.cell, ?_, fun y c e => ?_, fun p hp => ?_, fun b o e => ?_, I.len⟩
  · rw [upd_ne (Nat.ne_of_lt (Nat.lt_of_lt_of_le (Heap.lt_size e) h0))]
    exact I.base.free b o e n hb
  · have q := I.base.tups b xs e
    rw [upd_ne (neH b _ q)]; exact q
  · have q := I.base.frzs b o u e
    rw [upd_ne (neH b _ q)]; exact q
  · obtain ⟨m, q⟩ := I.base.tbls b ps e
    exact ⟨m, by rw [upd_ne (neH b _ q)]; exact q⟩
  · rw [upd_ne (Ne.symm f1)]; exact I.free
  · rw [upd_ne (f4 y c e)]; exact I.freeC y c e
  · obtain ⟨e, n, r⟩ := I.pin p hp
    exact ⟨e, by rw [upd_ne (f5 p hp)]; exact n, r⟩
  · by_cases hb : b = T
    · subst hb
      rw [upd_same] at e; cases e
      exact ⟨hz, its, r, hT⟩
    · rw [upd_ne hb] at e
      exact (I.hok b o e).stay (fun c v _ q => q) (fun c q => by rw [upd_ne (neH c _ q)]; exact q) fun c xs q => by rw [upd_ne (neH c _ q)]; exact q
end
noncomputable def Itz (K : PySem.W.Frag) (a b : Addr) : It :=
  ⟨fun i H => ∃ xs ys, SqL K H a xs ∧ SqL K H b ys ∧ i < xs.length ∧ i < ys.length,
   fun i H x H' => ∃ T u v, x = .ref T ∧ H T = none ∧ H' = upd H T (.tup [u, v]) ∧ (∀ xs, SqL K H a xs → xs[i]? = some u) ∧ ∀ ys, SqL K H b ys → ys[i]? = some v,
   fun i H => ∃ xs ys, SqL K H a xs ∧ SqL K H b ys ∧ (xs.length ≤ i ∨ ys.length ≤ i)⟩
theorem turn_zip {P : Program} {w : World} {K : PySem.W.Frag} {elts : List Expr} {k : Nat} {pos : Pos} {z TI TO i1 i2 l1 l2 : Addr} (D : ZipApart z TI TO i1 i2 l1 l2) :
    Turn P w K (.Tuple elts k pos) (Itz K l1 l2) [z, TI, TO, i1, i2] z (fun i h => IsZip h z TI TO .none ∧ IsPair h TI (.ref i1) (.ref i2) ∧ (∃ a b, IsPair h TO a b) ∧ h.IsListIter i1 l1 i ∧ h.IsListIter i2 l2 i) where
  mem := by simp
  obj := fun i h st b hb => by
    obtain ⟨hz, hTI, ⟨x, y, hTO⟩, ⟨o1, e1, _, d1⟩, ⟨o2, e2, _, d2⟩⟩ := st
    simp only [List.mem_cons, List.not_mem_nil, or_false] at hb
    rcases hb with rfl | rfl | rfl | rfl | rfl
    · exact ⟨_, hz, fun v q => by cases q⟩
    · exact ⟨_, hTI, fun v q => by cases q⟩
    · exact ⟨_, hTO, fun v q => by cases q⟩
    · exact ⟨o1, e1, fun v q => by rw [d1] at q; cases q⟩
    · exact ⟨o2, e2, fun v q => by rw [d2] at q; cases q⟩
  keep := fun i h h' st kp => by
    obtain ⟨hz, hTI, ⟨x, y, hTO⟩, h1, h2⟩ := st
    exact ⟨kp z (by simp) _ hz, kp TI (by simp) _ hTI, ⟨x, y, kp TO (by simp) _ hTO⟩, h1.at fun o e => kp i1 (by simp) o e, h2.at fun o e => kp i2 (by simp) o e⟩
  item := by
    intro X hP hw hK hc i pins s σ H E I hf st hg
    subst hP hw hK
    obtain ⟨xs, ys, q1, q2, g1, g2⟩ := hg
    obtain ⟨its1, rv1, p1, z1⟩ := I.list q1
    obtain ⟨its2, rv2, p2, z2⟩ := I.list q2
    obtain ⟨hz, hTI, ⟨x0, y0, hTO⟩, h1, h2⟩ := st
    have W := WalksT.zip2 (prog := X.prog) (w := X.w) (A := X.A) (I.ok.hd hc) z TI TO i1 i2 l1 l2 D its1.toArray its2.toArray
    have L1 := rv1.length
    have L2 := rv2.length
    refine W.item i s _ _ (by simp only [List.size_toArray]; omega) ⟨hz, hTI, ⟨_, _, hTO⟩, h1, h2, p1.isList, p2.isList⟩ fun T vals h' tk hv hsz hT hmid kk => ?_
    obtain ⟨x, y, hx, hy, rfl⟩ := hv
    refine ⟨_, rfl, W.go elts k pos i T { s with heap := h', toks := tk } _ _ hmid fun h3 hst kk3 => ?_⟩
    obtain ⟨u, e1⟩ : ∃ u, xs[i]? = some u := ⟨xs[i], List.getElem?_eq_getElem g1⟩
    obtain ⟨v, e2⟩ : ∃ v, ys[i]? = some v := ⟨ys[i], List.getElem?_eq_getElem g2⟩
    obtain ⟨x', e3, r1⟩ := rv1.get e1
    obtain ⟨y', e4, r2⟩ := rv2.get e2
    have ex : x' = x := by
      have : its1[i]? = some x := by simpa using hx
      rw [e3] at this; exact Option.some.inj this
    have ey : y' = y := by
      have : its2[i]? = some y := by simpa using hy
      rw [e4] at this; exact Option.some.inj this
    subst ex; subst ey
    have fw : ∀ b ∈ [z, TO, i1, i2], FpOk X pins H b := fun b hb => hf b (by
      simp only [List.mem_cons, List.not_mem_nil, or_false] at hb ⊢
      rcases hb with rfl | rfl | rfl | rfl <;> simp)
    have I1 : Inv X pins σ H { s with heap := h', toks := tk } := inv_turnedAll I kk fw
    have I2 : Inv X pins σ H { s with heap := h3, toks := tk } := inv_turnedAll (s := { s with heap := h', toks := tk }) I1 kk3 fw
    have nT := W.apart i T h' hmid
    have hT3 : h3.IsTuple T #[x', y'] := by
      obtain ⟨o, ho, r⟩ := hT
      exact ⟨o, kk3 T o nT ho, r⟩
    have fT : FpOk X pins H T := I.fpOk hsz (I.hok.fresh hsz)
    have I3 := inv_tup (xs := [u, v]) (its := [x', y']) I2 fT (Nat.le_trans I.sz hsz) hT3 (.cons r1 (.cons r2 .nil)) (Nat.le_of_lt (small1000 (by show 2 ≤ 1000; decide)))
    refine ⟨.ref T, upd H T (.tup [u, v]), I3, rfl, ⟨T, u, v, rfl, fT.1, rfl, fun xs' h => by rw [I.list_inj h q1]; exact e1, fun ys' h => by rw [I.list_inj h q2]; exact e2⟩, ⟨hst.1, hst.2.1, hst.2.2.1, hst.2.2.2.1, hst.2.2.2.2.1⟩, fun b hb => ?_⟩
    rw [upd_ne]
    · exact (hf b hb).1
    · intro e
      subst e
      have : ∃ o, s.heap.get? b = some o := by
        simp only [List.mem_cons, List.not_mem_nil, or_false] at hb
        rcases hb with rfl | rfl | rfl | rfl | rfl
        · exact ⟨_, hz⟩
        · exact ⟨_, hTI⟩
        · exact ⟨_, hTO⟩
        · obtain ⟨o, e, _⟩ := h1; exact ⟨o, e⟩
        · obtain ⟨o, e, _⟩ := h2; exact ⟨o, e⟩
      obtain ⟨o, e⟩ := this
      exact absurd (Heap.lt_size e) (Nat.not_lt.mpr hsz)
  done := by
    intro X hP hw hK hc i pins s σ H E I hf st hg
    subst hP hw hK
    obtain ⟨xs, ys, q1, q2, g⟩ := hg
    obtain ⟨its1, rv1, p1, z1⟩ := I.list q1
    obtain ⟨its2, rv2, p2, z2⟩ := I.list q2
    obtain ⟨hz, hTI, ⟨x0, y0, hTO⟩, h1, h2⟩ := st
    have L1 := rv1.length
    have L2 := rv2.length
    refine wpAny_pyNext_zip_end (I.ok.hd hc) D hz hTI hTO h1 h2 p1.isList p2.isList ?_ fun h' hk => ⟨rfl, ?_⟩
    · rcases g with g | g
      · exact .inl (by simp; omega)
      · exact .inr (by simp; omega)
    · exact inv_turnedAll (t' := s.toks) (ws := [z, TO, i1, i2]) I (fun b o hb e => hk b o (fun x => hb (by simp [x])) (fun x => hb (by simp [x])) (fun x => hb (by simp [x])) (fun x => hb (by simp [x])) e) fun b hb => hf b (by
        simp only [List.mem_cons, List.not_mem_nil, or_false] at hb ⊢
        rcases hb with rfl | rfl | rfl | rfl <;> simp)
  self := fun _ _ _ _ _ st h => wpAny_pyIter_zip st.1 h
theorem boot_zip : bootBuiltins "zip" = some (.type "zip") := by decide +kernel
theorem boot_enumerate : bootBuiltins "enumerate" = some (.type "enumerate") := by decide +kernel
theorem boot_reversed : bootBuiltins "reversed" = some (.type "reversed") := by decide +kernel
section
variable {X : Cx} {K : PySem.W.Frag}
noncomputable def iZip (K : PySem.W.Frag) (t : TA) : TI := fun σ H R => t σ H fun vs H1 => ∃ a b, vs = [.ref a, .ref b] ∧ (∃ xs, SqL K H1 a xs) ∧ (∃ ys, SqL K H1 b ys) ∧ R (Itz K a b) H1
theorem pi_zip {elts : List Expr} {k : Nat} {tpos : Pos} {a b : Expr} {ta : TA} {p pos : Pos} (hK : X.K = K) (hg : Gl X "zip") (hm : X.mg "zip" = none) (ha : PA X [a, b] ta) (hs : starEach [a, b] X.env = [(false, eval a X.env), (false, eval b X.env)] := by rfl) (hs2 : starEach [b] X.env = [(false, eval b X.env)] := by rfl) :
    PI X (.Tuple elts k tpos) (.Call (.Name "zip" p) [a, b] [] pos) (iZip K ta) := by
  subst hK
  intro pins s σ H R I h
  refine Call_ (ld_blt I hg hm boot_zip (PyProof.Rows.callWith_type1 (thn (ha pos pins s σ H _ I h) fun us s1 ⟨vs, H1, I1, r1, q1⟩ => ?_) (by rw [hs, hs2]) (by rw [hs2]; rfl)))
  obtain ⟨a', b', e, ⟨xs, g1⟩, ⟨ys, g2⟩, q⟩ := q1
  subst e
  obtain ⟨u, v, rfl, ru, rv⟩ := vals2 r1
  cases ru; cases rv
  obtain ⟨its1, rv1, p1, z1⟩ := I1.list g1
  obtain ⟨its2, rv2, p2, z2⟩ := I1.list g2
  have a1 : a' < s1.heap.objs.size := by obtain ⟨_, e, _⟩ := p1.isList; exact Heap.lt_size e
  have a2 : b' < s1.heap.objs.size := by obtain ⟨_, e, _⟩ := p2.isList; exact Heap.lt_size e
  refine call_zip_2 p1.isList p2.isList fun h' hz hTI hTO hi1 hi2 _ hk => wpAny_pyIter_zip hz ?_
  refine ⟨s1.heap.objs.size + 4, [s1.heap.objs.size + 4, s1.heap.objs.size + 2, s1.heap.objs.size + 3, s1.heap.objs.size, s1.heap.objs.size + 1], _, _, H1, rfl, I1.kept (t' := s1.toks) hk, turn_zip (zipApart_new a1 a2), ⟨hz, hTI, ⟨_, _, hTO⟩, hi1, hi2⟩, fun b hb => ?_, q⟩
  have hb2 : s1.heap.objs.size ≤ b := by
    simp only [List.mem_cons, List.not_mem_nil, or_false] at hb
    rcases hb with rfl | rfl | rfl | rfl | rfl <;> omega
  exact I1.fpOk hb2 (I1.hok.fresh hb2)
end
noncomputable def Ite (K : PySem.W.Frag) (a : Addr) : It :=
  ⟨fun i H => ∃ xs, SqL K H a xs ∧ i < xs.length,
   fun i H x H' => ∃ T u, x = .ref T ∧ H T = none ∧ H' = upd H T (.tup [.int (i : Int), u]) ∧ ∀ xs, SqL K H a xs → xs[i]? = some u,
   fun i H => ∃ xs, SqL K H a xs ∧ xs.length ≤ i⟩
theorem turn_enum {P : Program} {w : World} {K : PySem.W.Frag} {elts : List Expr} {k : Nat} {pos : Pos} {e it l : Addr} (hei : e ≠ it) (hle : l ≠ e) (hli : l ≠ it) :
    Turn P w K (.Tuple elts k pos) (Ite K l) [e, it] e (fun i h => (∃ old, IsEnum h e it i old) ∧ h.IsListIter it l i) where
  mem := by simp
  obj := fun i h st b hb => by
    obtain ⟨⟨old, he⟩, ⟨o1, e1, _, d1⟩⟩ := st
    simp only [List.mem_cons, List.not_mem_nil, or_false] at hb
    rcases hb with rfl | rfl
    · exact ⟨_, he, fun v q => by cases q⟩
    · exact ⟨o1, e1, fun v q => by rw [d1] at q; cases q⟩
  keep := fun i h h' st kp => by
    obtain ⟨⟨old, he⟩, h1⟩ := st
    exact ⟨⟨old, kp e (by simp) _ he⟩, h1.at fun o x => kp it (by simp) o x⟩
  item := by
    intro X hP hw hK hc i pins s σ H E I hf st hg
    subst hP hw hK
    obtain ⟨xs, q1, g1⟩ := hg
    obtain ⟨its1, rv1, p1, z1⟩ := I.list q1
    obtain ⟨⟨old, he⟩, h1⟩ := st
    have W := WalksT.enumerate (prog := X.prog) (w := X.w) (A := X.A) (I.ok.hd hc) e it l hei hle hli its1.toArray
    have L1 := rv1.length
    refine W.item i s _ _ (by simp only [List.size_toArray]; omega) ⟨⟨old, he⟩, h1, p1.isList⟩ fun T vals h' tk hv hsz hT hmid kk => ?_
    obtain ⟨t, x, hx, rfl⟩ := hv
    refine ⟨_, rfl, W.go elts k pos i T { s with heap := h', toks := tk } _ _ hmid fun h3 hst kk3 => ?_⟩
    obtain ⟨u, e1⟩ : ∃ u, xs[i]? = some u := ⟨xs[i], List.getElem?_eq_getElem g1⟩
    obtain ⟨x', e3, r1⟩ := rv1.get e1
    have ex : x' = x := by
      have : its1[i]? = some x := by simpa using hx
      rw [e3] at this; exact Option.some.inj this
    subst ex
    have I1 : Inv X pins σ H { s with heap := h', toks := tk } := inv_turnedAll I kk hf
    have I2 : Inv X pins σ H { s with heap := h3, toks := tk } := inv_turnedAll (s := { s with heap := h', toks := tk }) I1 kk3 hf
    have nT := W.apart i T h' hmid
    have hT3 : h3.IsTuple T #[.int i t, x'] := by
      obtain ⟨o, ho, r⟩ := hT
      exact ⟨o, kk3 T o nT ho, r⟩
    have fT : FpOk X pins H T := I.fpOk hsz (I.hok.fresh hsz)
    have I3 := inv_tup (xs := [.int (i : Int), u]) (its := [.int i t, x']) I2 fT (Nat.le_trans I.sz hsz) hT3 (.cons ⟨t, rfl⟩ (.cons r1 .nil)) (Nat.le_of_lt (small1000 (by show 2 ≤ 1000; decide)))
    refine ⟨.ref T, upd H T (.tup [.int (i : Int), u]), I3, rfl, ⟨T, u, rfl, fT.1, rfl, fun xs' h => by rw [I.list_inj h q1]; exact e1⟩, ⟨hst.1, hst.2.1⟩, fun b hb => ?_⟩
    rw [upd_ne]
    · exact (hf b hb).1
    · intro e'
      subst e'
      have : ∃ o, s.heap.get? b = some o := by
        simp only [List.mem_cons, List.not_mem_nil, or_false] at hb
        rcases hb with rfl | rfl
        · exact ⟨_, he⟩
        · obtain ⟨o, e, _⟩ := h1; exact ⟨o, e⟩
      obtain ⟨o, e⟩ := this
      exact absurd (Heap.lt_size e) (Nat.not_lt.mpr hsz)
  done := by
    intro X hP hw hK hc i pins s σ H E I hf st hg
    subst hP hw hK
    obtain ⟨xs, q1, g⟩ := hg
    obtain ⟨its1, rv1, p1, z1⟩ := I.list q1
    obtain ⟨⟨old, he⟩, h1⟩ := st
    have L1 := rv1.length
    exact wpAny_pyNext_enum_end (I.ok.hd hc) he h1 p1.isList (by simp; omega) fun h' hx => ⟨rfl, inv_turnedAll (t' := s.toks) (ws := [e, it]) I (fun b o hb y => hx b o (fun e' => hb (by simp [e'])) y) hf⟩
  self := fun _ _ _ _ _ st h => by
    obtain ⟨⟨old, he⟩, _⟩ := st
    exact wpAny_pyIter_enum he h
noncomputable def Itv (K : PySem.W.Frag) (a : Addr) (n : Nat) : It :=
  ⟨fun i H => ∃ xs, SqL K H a xs ∧ xs.length = n ∧ i < n, fun i H x H' => H' = H ∧ ∀ xs, SqL K H a xs → xs[n - 1 - i]? = some x, fun i _ => n ≤ i⟩
theorem turn_rev {P : Program} {w : World} {K : PySem.W.Frag} {tg : Expr} {it l : Addr} {n : Nat} : Turn P w K tg (Itv K l n) [it] it (fun i h => i ≤ n ∧ h.IsRevIter it l ((n : Int) - 1 - (i : Int))) where
  mem := by simp
  obj := fun i h st b hb => by
    have e : b = it := by simpa using hb
    subst e
    obtain ⟨_, o, e, c, d⟩ := st
    exact ⟨o, e, fun v z => by rw [d] at z; cases z⟩
  keep := fun i h h' st k => ⟨st.1, st.2.at fun o e => k it (by simp) o e⟩
  item := by
    intro X hP hw hK hc i pins s σ H E I hf st hg
    subst hP hw hK
    obtain ⟨xs, hq, hn, hi⟩ := hg
    obtain ⟨its, rv, p, hz⟩ := I.list hq
    obtain ⟨x, hx⟩ : ∃ x, xs[n - 1 - i]? = some x := ⟨_, List.getElem?_eq_getElem (by omega)⟩
    obtain ⟨u, hu, ru⟩ := rv.get hx
    obtain ⟨f0, f1, f2, f3, f4, f5⟩ := hf it (by simp)
    have e1 : (n : Int) - 1 - (i : Int) = ((n - 1 - i : Nat) : Int) := by omega
    have st2 := st.2
    rw [e1] at st2
    refine wpAny_pyNext_rev_item st2 p.isList (x := u) (by simpa using hu) fun h' st' sb => ?_
    have I1 : Inv X pins σ H { s with heap := h' } := I.turned (t' := s.toks) (fun b o hb e => (sb.2 b hb).trans e) f0 f1 f3 f4 f5
    obtain ⟨o, e, c, d⟩ := id st'
    refine ⟨u, rfl, go_of (s := { s with heap := h' }) e c d (by decide) ⟨x, H, I1, ru, ⟨rfl, fun ys hy => by rw [I.list_inj hy hq]; exact hx⟩, ⟨by omega, ?_⟩, fun b hb => (hf b hb).1⟩⟩
    have e2 : (n : Int) - 1 - ((i + 1 : Nat) : Int) = ((n - 1 - i : Nat) : Int) - 1 := by omega
    rw [e2]
    exact st'
  done := by
    intro X hP hw hK hc i pins s σ H E I hf st hg
    subst hP hw hK
    have hg' : n ≤ i := hg
    obtain ⟨f0, f1, f2, f3, f4, f5⟩ := hf it (by simp)
    have e1 : (n : Int) - 1 - (i : Int) = -1 := by have := st.1; omega
    have st2 := st.2
    rw [e1] at st2
    exact wpAny_pyNext_rev_end (I.ok.hd hc) st2 fun h' eb => ⟨rfl, I.turned (t' := s.toks) (fun b o hb e => eb b o hb e) f0 f1 f3 f4 f5⟩
  self := fun _ _ _ _ _ st h => wpAny_pyIter_revIter st.2 h
section
variable {X : Cx} {K : PySem.W.Frag}
noncomputable def iEnum (K : PySem.W.Frag) (t : TA) : TI := fun σ H R => t σ H fun vs H1 => ∃ a, vs = [.ref a] ∧ (∃ xs, SqL K H1 a xs) ∧ R (Ite K a) H1
theorem pi_enumerate {elts : List Expr} {k : Nat} {tpos : Pos} {a : Expr} {ta : TA} {p pos : Pos} (hK : X.K = K) (hg : Gl X "enumerate") (hm : X.mg "enumerate" = none) (ha : PA X [a] ta) (hs : starEach [a] X.env = [(false, eval a X.env)] := by rfl) :
    PI X (.Tuple elts k tpos) (.Call (.Name "enumerate" p) [a] [] pos) (iEnum K ta) := by
  subst hK
  intro pins s σ H R I h
  refine Call_ (ld_blt I hg hm boot_enumerate (PyProof.Rows.callWith_type1 (thn (ha pos pins s σ H _ I h) fun us s1 ⟨vs, H1, I1, r1, q1⟩ => ?_) (by rw [hs]; rfl) (by rfl)))
  obtain ⟨a', e, ⟨xs, g1⟩, q⟩ := q1
  subst e
  obtain ⟨u, rfl, ru⟩ := vals1 r1
  cases ru
  obtain ⟨its1, rv1, p1, z1⟩ := I1.list g1
  have a1 : a' < s1.heap.objs.size := by obtain ⟨_, e, _⟩ := p1.isList; exact Heap.lt_size e
  refine call_enumerate_list p1.isList fun h' hz hi1 _ hk => wpAny_pyIter_enum hz ?_
  refine ⟨s1.heap.objs.size + 1, [s1.heap.objs.size + 1, s1.heap.objs.size], _, _, H1, rfl, I1.kept (t' := s1.toks) hk, turn_enum (e := s1.heap.objs.size + 1) (it := s1.heap.objs.size) (l := a') (Nat.succ_ne_self _) (Nat.ne_of_lt (Nat.lt_succ_of_lt a1)) (Nat.ne_of_lt a1), ⟨⟨_, hz⟩, hi1⟩, fun b hb => ?_, q⟩
  have hb2 : s1.heap.objs.size ≤ b := by
    simp only [List.mem_cons, List.not_mem_nil, or_false] at hb
    rcases hb with rfl | rfl <;> omega
  exact I1.fpOk hb2 (I1.hok.fresh hb2)
noncomputable def iRev (K : PySem.W.Frag) (t : TA) : TI := fun σ H R => t σ H fun vs H1 => ∃ a xs, vs = [.ref a] ∧ SqL K H1 a xs ∧ R (Itv K a xs.length) H1
theorem pi_reversed {tg : Expr} {a : Expr} {ta : TA} {p pos : Pos} (hK : X.K = K) (hg : Gl X "reversed") (hm : X.mg "reversed" = none) (ha : PA X [a] ta) (hs : starEach [a] X.env = [(false, eval a X.env)] := by rfl) :
    PI X tg (.Call (.Name "reversed" p) [a] [] pos) (iRev K ta) := by
  subst hK
  intro pins s σ H R I h
  refine Call_ (ld_blt I hg hm boot_reversed (PyProof.Rows.callWith_type1 (thn (ha pos pins s σ H _ I h) fun us s1 ⟨vs, H1, I1, r1, q1⟩ => ?_) (by rw [hs]; rfl) (by rfl)))
  obtain ⟨a', xs, e, g1, q⟩ := q1
  subst e
  obtain ⟨u, rfl, ru⟩ := vals1 r1
  cases ru
  obtain ⟨its1, rv1, p1, z1⟩ := I1.list g1
  have L1 := rv1.length
  refine call_reversed_list p1.isList ?_
  have hit : (s1.heap.push (revObj a' ((its1.toArray.size : Int) - 1))).IsRevIter s1.heap.objs.size a' ((xs.length : Int) - 1 - ((0 : Nat) : Int)) := by
    refine ⟨_, Heap.get?_push_size _ rfl, rfl, ?_⟩
    simp only [revObj, List.size_toArray]
    rw [L1]
    simp
  refine wpAny_pyIter_revIter hit ?_
  refine ⟨s1.heap.objs.size, [s1.heap.objs.size], _, _, H1, rfl, I1.kept (t' := s1.toks) fun b o e => Heap.get?_push_of_some _ e, turn_rev, ⟨Nat.zero_le _, hit⟩, fun b hb => ?_, q⟩
  have e : b = s1.heap.objs.size := by simpa using hb
  subst e
  exact I1.fpOk (Nat.le_refl _) (I1.hok.fresh (Nat.le_refl _))
end
section
variable {K : PySem.W.Frag} {H₀ : Hp} {E : XK} {te ta tb : TE} {da db de : DE} {dl dk : DL} {t : TA}
noncomputable def pairD : List PyData → List PyData → List PyData
  | x :: xs, y :: ys => .tuple [x, y] :: pairD xs ys
  | _, _ => []
theorem pairD_len : ∀ xs ys : List PyData, (pairD xs ys).length = min xs.length ys.length
  | [], _ => by simp [pairD]
  | _ :: _, [] => by simp [pairD]
  | x :: xs, y :: ys => by simp [pairD, pairD_len xs ys]
theorem pairD_at : ∀ {xs ys : List PyData} {i : Nat} {d : PyData}, (pairD xs ys)[i]? = some d → ∃ x y, xs[i]? = some x ∧ ys[i]? = some y ∧ d = .tuple [x, y]
  | [], _, _, _, h => by simp [pairD] at h
  | _ :: _, [], _, _, h => by simp [pairD] at h
  | x :: xs, y :: ys, 0, d, h => ⟨x, y, rfl, rfl, by simpa [pairD] using h.symm⟩
  | x :: xs, y :: ys, i + 1, d, h => by
    obtain ⟨u, v, h1, h2, h3⟩ := pairD_at (xs := xs) (ys := ys) (i := i) (d := d) (by simpa [pairD] using h)
    exact ⟨u, v, by simpa using h1, by simpa using h2, h3⟩
noncomputable def dZip (dl dk : DL) (ex : DX) (δ : DEn) (Q : List PyData → Prop) : Prop := dl ex δ fun xs => dk ex δ fun ys => Q (pairD xs ys)
theorem itz_ok {a b : Addr} {vs ws : List V} {xs ys : List PyData} {G H : Hp} (s : Sub G H) (h1 : SqL K H a vs) (h2 : SqL K H b ws) (d1 : DVs K G vs xs) (d2 : DVs K G ws ys) (i : Nat) :
    (∀ d, (pairD xs ys)[i]? = some d → (Itz K a b).go i H ∧ ∀ x H2, (Itz K a b).yld i H x H2 → ∃ G2, Ext G H G2 H2 ∧ DV K G2 x d) ∧ ((pairD xs ys).length ≤ i → (Itz K a b).stop i H) := by
  refine ⟨fun d hi => ?_, fun hi => ⟨vs, ws, h1, h2, ?_⟩⟩
  · obtain ⟨x, y, e1, e2, rfl⟩ := pairD_at hi
    obtain ⟨u, f1, f2⟩ := d1.at e1
    obtain ⟨v, g1, g2⟩ := d2.at e2
    refine ⟨⟨vs, ws, h1, h2, (List.getElem?_eq_some_iff.mp f1).1, (List.getElem?_eq_some_iff.mp g1).1⟩, fun z H2 ⟨T, u', v', e3, hT, e4, k1, k2⟩ => ?_⟩
    subst e3 e4
    have q1 := k1 vs h1
    have q2 := k2 ws h2
    rw [f1] at q1; rw [g1] at q2
    cases q1; cases q2
    have e := ext_new (xs := [u, v]) s hT
    exact ⟨_, e, .tup (SqT.of upd_same) (.cons (dv_same e.g f2) (.cons (dv_same e.g g2) .nil))⟩
  · rw [pairD_len] at hi
    have := d1.len
    have := d2.len
    omega
theorem is_zip (h1 : EvD K H₀ E ta da) (h2 : EvD K H₀ E tb db) : IvS K H₀ E (iZip K (tCons ta (tCons tb tNil))) (dZip (dAsL da) (dAsL db)) := fun ex δ σ G H Qd R hx S q k =>
  h1 ex δ σ G H _ _ hx S q fun v d G1 H1 e1 hd q1 => by
    cases d with
    | list xs =>
      refine h2 ex δ σ G1 H1 _ _ hx (S.ext e1) q1 fun v2 d2 G2 H2 e2 hd2 q2 => ?_
      cases d2 with
      | list ys =>
        obtain ⟨a, vs, rfl, a1, a2⟩ := dv_list hd
        obtain ⟨b, ws, rfl, b1, b2⟩ := dv_list hd2
        refine ⟨a, b, rfl, ⟨vs, e2.h.seq (e1.s.same.seq a1)⟩, ⟨ws, e2.s.same.seq b1⟩, k _ _ G2 H2 (e1.trans e2) (fun G' H' s1 s2 i => ?_) q2⟩
        exact itz_ok s2 (s2.same.seq (s1.seq (e2.g.seq a1))) (s2.same.seq (s1.seq b1)) (dvs_same s1 (dvs_same e2.g a2)) (dvs_same s1 b2) i
      | _ => exact q2.elim
    | _ => exact q1.elim
theorem ie_zip (h1 : LvD K H₀ E ta dl) (h2 : LvD K H₀ E tb dk) : IvE K H₀ E (iZip K (tCons ta (tCons tb tNil))) (dZip dl dk) := fun ex δ σ G H Qd R hx S q k =>
  h1 ex δ σ G H _ _ hx S q fun a vs xs G1 H1 e1 a1 a2 q1 => h2 ex δ σ G1 H1 _ _ hx (S.ext e1) q1 fun b ws ys G2 H2 e2 b1 b2 q2 =>
    ⟨a, b, rfl, ⟨vs, e2.h.seq a1⟩, ⟨ws, b1⟩, k _ _ G2 H2 (e1.trans e2) (fun G' H' e i => itz_ok e.s (e.h.seq (e2.h.seq a1)) (e.h.seq b1) (dvs_same e.g (dvs_same e2.g a2)) (dvs_same e.g b2) i) q2⟩
noncomputable def enumD : Nat → List PyData → List PyData
  | _, [] => []
  | k, x :: xs => .tuple [.int (k : Int), x] :: enumD (k + 1) xs
theorem enumD_len : ∀ (k : Nat) (xs : List PyData), (enumD k xs).length = xs.length
  | _, [] => rfl
  | k, x :: xs => by simp [enumD, enumD_len (k + 1) xs]
theorem enumD_at : ∀ {k : Nat} {xs : List PyData} {i : Nat} {d : PyData}, (enumD k xs)[i]? = some d → ∃ x, xs[i]? = some x ∧ d = .tuple [.int ((k + i : Nat) : Int), x]
  | _, [], _, _, h => by simp [enumD] at h
  | k, x :: xs, 0, d, h => ⟨x, rfl, by simpa [enumD] using h.symm⟩
  | k, x :: xs, i + 1, d, h => by
    obtain ⟨u, h1, h2⟩ := enumD_at (k := k + 1) (xs := xs) (i := i) (d := d) (by simpa [enumD] using h)
    refine ⟨u, by simpa using h1, ?_⟩
    rw [h2]
    have e : k + 1 + i = k + (i + 1) := by omega
    rw [e]
noncomputable def dEnum (dl : DL) (ex : DX) (δ : DEn) (Q : List PyData → Prop) : Prop := dl ex δ fun xs => Q (enumD 0 xs)
theorem ite_ok {a : Addr} {vs : List V} {xs : List PyData} {G H : Hp} (s : Sub G H) (h1 : SqL K H a vs) (d1 : DVs K G vs xs) (i : Nat) :
    (∀ d, (enumD 0 xs)[i]? = some d → (Ite K a).go i H ∧ ∀ x H2, (Ite K a).yld i H x H2 → ∃ G2, Ext G H G2 H2 ∧ DV K G2 x d) ∧ ((enumD 0 xs).length ≤ i → (Ite K a).stop i H) := by
  refine ⟨fun d hi => ?_, fun hi => ⟨vs, h1, ?_⟩⟩
  · obtain ⟨x, e1, rfl⟩ := enumD_at hi
    obtain ⟨u, f1, f2⟩ := d1.at e1
    refine ⟨⟨vs, h1, (List.getElem?_eq_some_iff.mp f1).1⟩, fun z H2 ⟨T, u', e3, hT, e4, k1⟩ => ?_⟩
    subst e3 e4
    have q1 := k1 vs h1
    rw [f1] at q1
    cases q1
    have e := ext_new (xs := [.int (i : Int), u]) s hT
    rw [Nat.zero_add]
    exact ⟨_, e, .tup (SqT.of upd_same) (.cons (.int _) (.cons (dv_same e.g f2) .nil))⟩
  · rw [enumD_len] at hi
    rw [d1.len]; exact hi
theorem is_enum (h1 : EvD K H₀ E ta da) : IvS K H₀ E (iEnum K (tCons ta tNil)) (dEnum (dAsL da)) := fun ex δ σ G H Qd R hx S q k =>
  h1 ex δ σ G H _ _ hx S q fun v d G1 H1 e1 hd q1 => by
    cases d with
    | list xs =>
      obtain ⟨a, vs, rfl, a1, a2⟩ := dv_list hd
      exact ⟨a, rfl, ⟨vs, e1.s.same.seq a1⟩, k _ _ G1 H1 e1 (fun G' H' s1 s2 i => ite_ok s2 (s2.same.seq (s1.seq a1)) (dvs_same s1 a2) i) q1⟩
    | _ => exact q1.elim
noncomputable def dRev (dl : DL) (ex : DX) (δ : DEn) (Q : List PyData → Prop) : Prop := dl ex δ fun xs => Q xs.reverse
theorem itv_ok {a : Addr} {vs : List V} {xs : List PyData} {G H : Hp} (s : Sub G H) (h1 : SqL K H a vs) (d1 : DVs K G vs xs) (i : Nat) :
    (∀ d, xs.reverse[i]? = some d → (Itv K a vs.length).go i H ∧ ∀ x H2, (Itv K a vs.length).yld i H x H2 → ∃ G2, Ext G H G2 H2 ∧ DV K G2 x d) ∧ (xs.reverse.length ≤ i → (Itv K a vs.length).stop i H) := by
  have hl := d1.len
  refine ⟨fun d hi => ?_, fun hi => ?_⟩
  · have hlt : i < xs.length := by
      have := (List.getElem?_eq_some_iff.mp hi).1
      simpa using this
    rw [List.getElem?_reverse hlt] at hi
    obtain ⟨u, f1, f2⟩ := d1.at hi
    refine ⟨⟨vs, h1, rfl, by omega⟩, fun z H2 ⟨e1, k1⟩ => ?_⟩
    subst e1
    have q1 := k1 vs h1
    rw [hl, f1] at q1
    cases q1
    exact ⟨G, .refl s, f2⟩
  · show vs.length ≤ i
    rw [List.length_reverse] at hi
    omega
theorem is_rev (h1 : EvD K H₀ E ta da) : IvS K H₀ E (iRev K (tCons ta tNil)) (dRev (dAsL da)) := fun ex δ σ G H Qd R hx S q k =>
  h1 ex δ σ G H _ _ hx S q fun v d G1 H1 e1 hd q1 => by
    cases d with
    | list xs =>
      obtain ⟨a, vs, rfl, a1, a2⟩ := dv_list hd
      exact ⟨a, vs, rfl, e1.s.same.seq a1, k _ _ G1 H1 e1 (fun G' H' s1 s2 i => itv_ok s2 (s2.same.seq (s1.seq a1)) (dvs_same s1 a2) i) q1⟩
    | _ => exact q1.elim
end
section
variable {prog : Program} {w : World} {A : Around} {E : Value → Shared → Prop} {s : Shared}
end
section
variable {prog : Program} {w : World} {A : Around} {s : Shared} {R : Result → Shared → Prop}
variable {I : Addr} {fp wr : List Addr} {G : Array GenState → Array GenState → Prop} {n : Nat} {P : Nat → Value → Prop} {St : Nat → Shared → Prop}
end
section
variable {prog : Program} {w : World} {A : Around} {E : Value → Shared → Prop} {s : Shared}
end
section
variable {X : Cx} {pins : List (Addr × Obj)} {σ : L2.St} {H : Hp} {s : Shared}
end
section
variable {X : Cx} {K : PySem.W.Frag}
end
section
variable {K : PySem.W.Frag} {H₀ : Hp} {E : XK} {te : TE} {dl : DL}
end
end Dl
namespace Dl
open PySem PySem.Spec PyProof.Rows L2 Lx PySem.W
section
variable {prog : Program} {w : World} {A : Around} {E : Value → Shared → Prop} {s : Shared}
end
section
variable {X : Cx} {K : PySem.W.Frag}
end
section
variable {K : PySem.W.Frag} {H₀ : Hp} {E : XK} {te ta : TE} {de da : DE} {dl : DL}
noncomputable abbrev pr (q : Int × Int) : PyData := .tuple [.int q.1, .int q.2]
end
section
variable {X : Cx}
noncomputable def rInsert : V → List V → Hp → VK → Prop := fun x vs H Q => ∃ l xs i y, x = .ref l ∧ vs = [.int i, y] ∧ H l = some (.lst xs) ∧ 0 ≤ i ∧ i ≤ (xs.length : Int) ∧ xs.length < sizeLine ∧ Q .non (upd H l (.lst (xs.take i.toNat ++ y :: xs.drop i.toNat)))
theorem mt_insert : MtM X "list.insert" rInsert := by
  intro pins s σ H x vs v us Q I rx rv h
  obtain ⟨l, xs, i, y, rfl, rfl, hH, h0, h1, hz, q⟩ := h
  cases rx
  obtain ⟨u, w', rfl, ⟨t, rfl⟩, ru⟩ := vals2 rv
  obtain ⟨z, its, n, r, hl, e⟩ := I.lstM hH
  have hlen := r.length
  have hn := line63
  refine call_meets F.slot_list_insert ⟨_, e, rfl⟩ F.entry_list_insert (F.args_list_insert_3 _ _ _) (PySem.AutoListH.list_insert_list_int_val_1 l its.toArray n i t w' (by simp [Builtin.List.listFitsIndex]; omega) (by rw [List.size_toArray]; omega)) ⟨e, ?_⟩
  refine ⟨.non, _, I.lset (its' := its.take i.toNat ++ w' :: its.drop i.toNat) hH e ?_ ((r.take _).append (.cons ru (r.drop _))) ?_, rfl, q⟩
  · have e1 : ¬ i < 0 := by omega
    have e2 : min i.toNat its.length = i.toNat := by omega
    simp only [e1, if_false, List.size_toArray, e2]
    apply Array.ext'
    simp [List.take_of_length_le]
  · rw [List.length_append, List.length_cons, List.length_take, List.length_drop]
    omega
end
section
variable {K : PySem.W.Frag} {H₀ : Hp} {E : XK} {te ta : TE} {de da : DE} {dl : DL}
noncomputable def dIns (i : Nat) (da de : DE) (e : DEnds) (δ : DEn) : Prop := match slot δ i with
  | some (.own ds) => da e.ex δ fun x => (match x with
    | .int k => de e.ex δ fun d => 0 ≤ k ∧ k ≤ (ds.length : Int) ∧ ds.length < 1000 ∧ e.nx (put (some (.own (ds.take k.toNat ++ d :: ds.drop k.toNat))) i δ)
    | _ => False)
  | _ => False
theorem sv_ins (i : Nat) (ha : BvD K H₀ E ta da) (h : EvD K H₀ E te de) : SvD K H₀ E (tDrop (tBM K "list" rInsert (tVar i) (tCons ta (tCons te tNil)))) (dIns i da de) := fun δ σ G H e D hx S q L => by
  unfold dIns at q
  split at q
  · rename_i ds hs
    obtain ⟨a, vs, h1, h2, h3, h4⟩ := S.ownAt hs
    refine ⟨_, h1, .inl ⟨rfl, _, SqL.of h3⟩, ha e.ex δ σ G H _ _ hx S q fun v d G' H' x hd qd => ?_⟩
    cases d with
    | int k =>
      cases dv_int hd
      refine h e.ex δ σ G' H' _ _ hx (S.ext x) qd fun v2 d2 G2 H2 x2 hd2 q2 => ?_
      obtain ⟨q0, q1, q3, q4⟩ := q2
      have x3 := x.trans x2
      have S' := S.ext x3
      have hl := h4.len
      exact ⟨a, vs, k, v2, rfl, rfl, x3.h _ _ h3, q0, by rw [hl]; exact q1, small1000 (by rw [hl]; omega), L.nx _ _ G2 _ x3.g (S'.updO hs h1 (((dvs_same x3.g h4).take _).append (.cons hd2 ((dvs_same x3.g h4).drop _)))) q4⟩
    | _ => exact qd.elim
  · exact q.elim
end
section
variable {X : Cx} {K : PySem.W.Frag}
end
section
variable {K : PySem.W.Frag} {H₀ : Hp} {E : XK} {ta tb : TE} {db : DE} {dl : DL}
noncomputable def dRep (dl : DL) (db : DE) (ex : DX) (δ : DEn) (Q : List PyData → Prop) : Prop := dl ex δ fun xs => db ex δ fun y => match y with
  | .int k => (-(2 ^ 63) ≤ k ∧ k < 2 ^ 63) ∧ xs.length * k.toNat ≤ 1000 ∧ Q (List.replicate k.toNat xs).flatten
  | _ => False
theorem dvs_rep {G : Hp} {vs : List V} {ds : List PyData} (h : DVs K G vs ds) : ∀ n : Nat, DVs K G (List.replicate n vs).flatten (List.replicate n ds).flatten
  | 0 => .nil
  | n + 1 => by
    rw [List.replicate_succ, List.replicate_succ, List.flatten_cons, List.flatten_cons]
    exact h.append (dvs_rep h n)
theorem ov_rep (h1 : MvD K H₀ E ta dl) (h2 : BvD K H₀ E tb db) : OvD K H₀ E (tOp rRep ta tb) (dRep dl db) := fun ex δ σ G H Qd Q hx S q k =>
  h1 ex δ σ G H _ _ hx S q fun a vs ds G1 H1 e1 l1 d1 q1 => h2 ex δ σ G1 H1 _ _ hx (S.ext e1) q1 fun y dy G2 H2 e2 hy q2 => by
    cases dy with
    | int j =>
      cases dv_int hy
      obtain ⟨⟨b1, b2⟩, q2, q3⟩ := q2
      refine ⟨a, j, vs, rfl, rfl, e2.h _ _ l1, b1, b2, Nat.le_of_lt (small1000 (by rw [d1.len]; exact q2)), fun p hp => ?_⟩
      obtain ⟨e3, g3⟩ := ext_newL (xs := (List.replicate j.toNat vs).flatten) e2.s hp
      have e0 := e1.trans e2
      exact k p _ _ _ _ (e0.trans e3) (e0.h.free hp) g3 upd_same (dvs_rep (dvs_same e2.g d1) _) q3
    | _ => exact q2.elim
end
theorem ktup {K : PySem.W.Frag} {a : Addr} {od : Option Addr} {n : Nat} {sl : Array (Option Value)} {its : Array Value} {xs : List V} {ds : List PyData} (h : K.lookup a = some ⟨.type "tuple", od, .seq its n, sl⟩) (hz : its.size ≤ sizeLine) (r : Vals xs its.toList) (d : ∀ H, DVs K H xs ds) (H : Hp) : DV K H (.ref a) (.tuple ds) :=
  .tup (.inr ⟨_, its, n, h, rfl, rfl, hz, r⟩) (d H)
noncomputable def eStr : Enc { x : Str // PyData.strOk x = true } := ⟨fun x => .str x.1, 0, by decide, fun x => x.2, fun _ => by simp [PyData.depth], fun x y => by simp [PyData.eqv, Subtype.ext_iff]⟩
noncomputable def rInT (K : PySem.W.Frag) (neg : Bool) : R2 := fun x y H Q => ∃ (α : Type) (e : Enc α) (a : α) (bs : List α), DV K H x (e.d a) ∧ DV K H y (.tuple (bs.map e.d)) ∧ ∀ k : Bool, (k = true ↔ a ∈ bs) → Q (.bl (if neg then !k else k)) H
section
variable {X : Cx} {K : PySem.W.Frag}
theorem notInTK (hK : X.K = K) (hu : X.A.units + 64 < cLine) : OpR X (compareOp .NotIn) (rInT K true) := by
  subst hK
  intro pins s σ H x y v u Q I rx ry h
  obtain ⟨α, e, a, bs, da, db, q⟩ := h
  obtain ⟨as, r1⟩ := dv_reads I da rx
  obtain ⟨cs, r2⟩ := dv_reads I db ry
  have h1 := e.depth a
  have h2 := e.small
  exact PySem.SeqAt.notIn_tuple_reads r2 r1 (enc_all e bs).1 (e.lay a) (by omega) ⟨.bl _, H, I, rfl, q _ (any_enc e a bs)⟩
end
noncomputable def oNInT (x y : PyData) (Q : PyData → Prop) : Prop := ∃ (α : Type) (e : Enc α) (a : α) (bs : List α), x = e.d a ∧ y = .tuple (bs.map e.d) ∧ ∀ k : Bool, (k = true ↔ a ∈ bs) → Q (.bool !k)
section
variable {K : PySem.W.Frag}
theorem ro_notInT : ROp K (rInT K true) oNInT := by
  rintro G H x y dx dy Qd Q hx hy ⟨α, e, a, bs, rfl, rfl, q⟩ k
  exact ⟨α, e, a, bs, hx, hy, fun c hc => k _ _ (.bl _) (q c hc)⟩
end
noncomputable def rBools (K : PySem.W.Frag) (f : List Bool → Bool) : List V → Hp → VK → Prop := fun xs H Q => ∃ (p : Addr) (bs : List Bool), xs = [.ref p] ∧ SqL K H p (bs.map V.bl) ∧ Q (.bl (f bs)) H
theorem bools_vals : ∀ {bs : List Bool} {us : List Value}, Vals (bs.map V.bl) us → LSm.BoolsAre us bs
  | [], _, .nil => .nil
  | b :: bs, _, .cons r t => by
    cases (show _ = Value.bool b from r)
    exact .cons b (bools_vals t)
section
variable {X : Cx} {K : PySem.W.Frag}
theorem allK (hK : X.K = K) (hc : X.calm = true) : CallR X (.builtin "all") (rBools K (·.all id)) := by
  subst hK
  intro pins s σ H xs us Q I r h
  obtain ⟨p, bs, rfl, hq, q⟩ := h
  obtain ⟨u, rfl, rx⟩ := vals1 r
  cases rx
  obtain ⟨its, r', pl, hz⟩ := I.list hq
  have hb := bools_vals r'
  have hl : s.heap.IsList p its.toArray := pl.isList
  have hlt : p < s.heap.objs.size := by obtain ⟨_, e, _⟩ := hl; exact Heap.lt_size e
  refine call_all_walk (wpAny_pyIter_list hl ?_)
  refine ⟨s.heap.objs.size, [s.heap.objs.size, p], [s.heap.objs.size], its.toArray.size, _, _, fun i => (bs[i]?).getD true, rfl, Walks.list (A := X.A.in1) (I.ok.hd hc) _ p (Nat.ne_of_lt hlt) its.toArray,
    ⟨⟨_, Heap.get?_push_size _ rfl, rfl, rfl⟩, hl.push _⟩, fun i v s' Q' E' hP hQ => ?_, fun h' tk hk => ?_⟩
  · obtain ⟨b, e, rfl⟩ := hb.get i v (by simpa using hP)
    simp only [e, Option.getD_some] at hQ
    exact wpAny_truthy_bool hQ
  · have e : ((List.range its.toArray.size).all fun i => (bs[i]?).getD true) = bs.all id := by
      rw [List.size_toArray, hb.length]; exact LSm.range_all bs
    rw [e]
    exact ⟨.bl _, H, I.kept (t' := tk) (LSm.kept_iter hk), rfl, q⟩
theorem anyK (hK : X.K = K) (hc : X.calm = true) : CallR X (.builtin "any") (rBools K (·.any id)) := by
  subst hK
  intro pins s σ H xs us Q I r h
  obtain ⟨p, bs, rfl, hq, q⟩ := h
  obtain ⟨u, rfl, rx⟩ := vals1 r
  cases rx
  obtain ⟨its, r', pl, hz⟩ := I.list hq
  have hb := bools_vals r'
  have hl : s.heap.IsList p its.toArray := pl.isList
  have hlt : p < s.heap.objs.size := by obtain ⟨_, e, _⟩ := hl; exact Heap.lt_size e
  refine call_any_walk (wpAny_pyIter_list hl ?_)
  refine ⟨s.heap.objs.size, [s.heap.objs.size, p], [s.heap.objs.size], its.toArray.size, _, _, fun i => (bs[i]?).getD false, rfl, Walks.list (A := X.A.in1) (I.ok.hd hc) _ p (Nat.ne_of_lt hlt) its.toArray,
    ⟨⟨_, Heap.get?_push_size _ rfl, rfl, rfl⟩, hl.push _⟩, fun i v s' Q' E' hP hQ => ?_, fun h' tk hk => ?_⟩
  · obtain ⟨b, e, rfl⟩ := hb.get i v (by simpa using hP)
    simp only [e, Option.getD_some] at hQ
    exact wpAny_truthy_bool hQ
  · have e : ((List.range its.toArray.size).any fun i => (bs[i]?).getD false) = bs.any id := by
      rw [List.size_toArray, hb.length]; exact LSm.range_any bs
    rw [e]
    exact ⟨.bl _, H, I.kept (t' := tk) (LSm.kept_iter hk), rfl, q⟩
end
noncomputable def bAll (ds : List PyData) (Q : PyData → Prop) : Prop := match ds with
  | [.list bs] => ∃ ks : List Bool, bs = ks.map PyData.bool ∧ Q (.bool (ks.all id))
  | _ => False
noncomputable def bAny (ds : List PyData) (Q : PyData → Prop) : Prop := match ds with
  | [.list bs] => ∃ ks : List Bool, bs = ks.map PyData.bool ∧ Q (.bool (ks.any id))
  | _ => False
section
variable {K : PySem.W.Frag}
theorem dvs_bools {H : Hp} : ∀ {ks : List Bool} {xs : List V}, DVs K H xs (ks.map PyData.bool) → xs = ks.map V.bl
  | [], _, .nil => rfl
  | k :: ks, _, .cons h t => by rw [dv_bl h, dvs_bools t]; rfl
theorem rb_all : RCb K (rBools K (·.all id)) bAll := by
  intro G H xs ds Qd Q hx q k
  unfold bAll at q
  split at q
  · obtain ⟨ks, rfl, q⟩ := q
    obtain ⟨x, rfl, hd⟩ := dvs1 hx
    obtain ⟨a, vs, rfl, h1, h2⟩ := dv_list hd
    rw [dvs_bools h2] at h1
    exact ⟨a, ks, rfl, h1, k _ _ (.bl _) q⟩
  · exact q.elim
theorem rb_any : RCb K (rBools K (·.any id)) bAny := by
  intro G H xs ds Qd Q hx q k
  unfold bAny at q
  split at q
  · obtain ⟨ks, rfl, q⟩ := q
    obtain ⟨x, rfl, hd⟩ := dvs1 hx
    obtain ⟨a, vs, rfl, h1, h2⟩ := dv_list hd
    rw [dvs_bools h2] at h1
    exact ⟨a, ks, rfl, h1, k _ _ (.bl _) q⟩
  · exact q.elim
end
theorem boot_all : bootBuiltins "all" = some (.builtin "all") := by decide +kernel
theorem boot_any : bootBuiltins "any" = some (.builtin "any") := by decide +kernel
section
variable {prog : Program} {w : World} {A : Around} {E : Value → Shared → Prop}
end
section
variable {X : Cx} {K : PySem.W.Frag}
end
section
variable {K : PySem.W.Frag} {H₀ : Hp}
end
noncomputable def eL3 {α β γ : Type} (a : Enc α) (b : Enc β) (c : Enc γ) (h : a.dep ≤ 15) (h' : b.dep ≤ 15) (h'' : c.dep ≤ 15) : Enc (α × β × γ) where
  d := fun p => .list [a.d p.1, b.d p.2.1, c.d p.2.2]
  dep := a.dep + b.dep + c.dep + 1
  small := by omega
  lay := fun p => by
    show ((a.d p.1).canLay0 && ((b.d p.2.1).canLay0 && ((c.d p.2.2).canLay0 && true))) = true
    rw [a.lay, b.lay, c.lay]; rfl
  depth := fun p => by
    have h1 := a.depth p.1
    have h2 := b.depth p.2.1
    have h3 := c.depth p.2.2
    simp only [PyData.depth, PyData.depthAll]
    omega
  eqv := fun p q => by
    show PyData.eqvAll [a.d p.1, b.d p.2.1, c.d p.2.2] [a.d q.1, b.d q.2.1, c.d q.2.2] = true ↔ p = q
    have h1 := a.eqv p.1 q.1
    have h2 := b.eqv p.2.1 q.2.1
    have h3 := c.eqv p.2.2 q.2.2
    simp only [PyData.eqvAll, Bool.and_eq_true, h1, h2, h3, and_true]
    exact ⟨fun ⟨x, y, z⟩ => Prod.ext x (Prod.ext y z), fun e => by rw [e]; exact ⟨rfl, rfl, rfl⟩⟩
local macro_rules | `(tactic| walk_at "o") => `(tactic| first | omega | (refine (fun (h : @Eq Nat _ _) => ?_); omega))
noncomputable abbrev IsTri (h : Heap) (T : Addr) (a b c : Value) : Prop := h.get? T = some { cls := .type "tuple", data := .seq #[a, b, c] }
theorem typeCall_zip3 (a b c : Value) : checkTypeCall "zip" ⟨[a, b, c], []⟩ = pure () := by kernel_rfl
theorem newCall_zip3 (a b c : Value) : checkBuiltinCall "zip.__new__" ⟨[.type "zip", a, b, c], []⟩ = pure () := by kernel_rfl
theorem args_init4 (a b c d : Value) : argsOk "object.__init__" ⟨[a, b, c, d], []⟩ := by
  unfold argsOk; rw [signature?_of (id := "object.__init__") (n := ['_', '_', 't', 'i', 'n', 'i', '_', '_']) (o := ['t', 'c', 'e', 'j', 'b', 'o']) (by kernel_rfl) F.owner_object]; kernel_rfl
section
variable {prog : Program} {w : World} {A : Around} {E : Value → Shared → Prop} {s : Shared}
theorem upd_tri {T : Addr} {a b c x : Value} {k : Nat} {Q : Unit → Shared → Prop} (hT : IsTri s.heap T a b c)
    (h : ∀ h', h'.get? T = some { cls := .type "tuple", data := .seq ((#[a, b, c] : Array Value).setIfInBounds k x) } → Heap.SameBut T s.heap h' → Q () { s with heap := h' }) :
    wpAny (model prog w) A (updateSeq T (·.setIfInBounds k x)) Q E s := by
  refine wpAny_updateSeq hT rfl (h _ ?_ (Heap.SameBut.update ..))
  rw [Heap.get?_update_self _ hT rfl]
  simp [Obj.mapSeq]
theorem zip3_item {n l1 l2 l3 : Nat} {k : Nat} {xs ys zs : Array Value} {x y v a b c : Value} {Q : Value → Shared → Prop} (L1 : l1 < n) (L2 : l2 < n) (L3 : l3 < n)
    (hz : IsZip s.heap (n + 5) (n + 3) (n + 4) .none) (hTI : IsTri s.heap (n + 3) (.ref n) (.ref (n + 1)) (.ref (n + 2))) (hTO : IsTri s.heap (n + 4) a b c)
    (h1 : s.heap.IsListIter n l1 k) (h2 : s.heap.IsListIter (n + 1) l2 k) (h3 : s.heap.IsListIter (n + 2) l3 k) (g1 : s.heap.IsList l1 xs) (g2 : s.heap.IsList l2 ys) (g3 : s.heap.IsList l3 zs)
    (hx : xs[k]? = some x) (hy : ys[k]? = some y) (hv : zs[k]? = some v)
    (hQ : ∀ h', IsZip h' (n + 5) (n + 3) (n + 4) (rawInt s.heap.objs.size) → IsTri h' (n + 4) x y v → h'.IsListIter n l1 (k + 1) → h'.IsListIter (n + 1) l2 (k + 1) → h'.IsListIter (n + 2) l3 (k + 1) → IsTri h' s.heap.objs.size x y v →
      (∀ (d : Nat) o, d ∉ ([n, n + 1, n + 2, n + 4, n + 5] : List Nat) → s.heap.get? d = some o → h'.get? d = some o) → Q (.ref s.heap.objs.size) { s with heap := h' }) :
    wpAny (model prog w) A (Builtin.«zip.__next__» ⟨[.ref (n + 5)], []⟩) (fun fin s' => ∃ v, fin = .done (.ret v) ∧ Q v s') E s := by
  show wpAny _ _ (field (.ref (n + 5)) 2 >>= _) _ _ _
  refine wpAny_bind (wpAny_field hz rfl (x := .bool false) rfl ?_)
  show wpAny _ _ (field (.ref (n + 5)) 3 >>= _) _ _ _
  refine wpAny_bind (wpAny_field hz rfl (x := .ref (n + 3)) rfl ?_)
  refine wpAny_bind (wpAny_seqItems hTI rfl ?_)
  show wpAny _ _ (Builtin.SmallTypes.ownedTupleIsFree (.ref (n + 5)) >>= _) _ _ _
  refine wpAny_bind ?_
  unfold Builtin.SmallTypes.ownedTupleIsFree
  refine wpAny_bind (wpAny_field hz rfl (x := .none) rfl (wpAny_pure ?_))
  simp only [if_true]
  refine wpAny_bind (wpAny_rule ?_)
  refine wpAny_bind (wpAny_field hz rfl (x := .ref (n + 4)) rfl ?_)
  refine wpAny_bind (wpAny_setField_rec hz (by simp) fun h₁ hz₁ hs₁ => ?_)
  replace hz₁ : IsZip h₁ (n + 5) (n + 3) (n + 4) .ellipsis := hz₁
  have q1 : ∀ (d : Nat) o, d ≠ n + 5 → s.heap.get? d = some o → h₁.get? d = some o := fun d o hd e => hs₁.extBut d o hd e
  refine wpAny_bind ?_
  simp only [List.zipIdx_cons, List.zipIdx_nil, List.forIn_cons, List.forIn_nil]
  refine wpAny_bind (wpAny_bind (wpAny_onRaise ?_))
  show wpAny _ _ (Builtin.SmallTypes.nextOf (.ref n) >>= _) _ _ _
  refine wpAny_bind (wpAny_nextOf_list_item (h1.at fun o e => q1 n o (by walk_at "o") e) (g1.at fun o e => q1 l1 o (by walk_at "o") e) hx fun h₂ i1 hs₂ => wpAny_pure ?_)
  have q2 : ∀ (d : Nat) o, d ≠ n + 5 → d ≠ n → s.heap.get? d = some o → h₂.get? d = some o := fun d o a1 a2 e => hs₂.extBut d o a2 (q1 d o a1 e)
  have z2 : IsZip h₂ (n + 5) (n + 3) (n + 4) .ellipsis := hs₂.extBut _ _ (by walk_at "o") hz₁
  have t2 : IsTri h₂ (n + 4) a b c := q2 _ _ (by walk_at "o") (by walk_at "o") hTO
  refine wpAny_bind (wpAny_seqItems t2 rfl ?_)
  refine wpAny_bind (upd_tri t2 fun h₃ t3 hs₃ => ?_)
  replace t3 : IsTri h₃ (n + 4) x b c := t3
  have q3 : ∀ (d : Nat) o, d ≠ n + 5 → d ≠ n → d ≠ n + 4 → s.heap.get? d = some o → h₃.get? d = some o := fun d o a1 a2 a3 e => hs₃.extBut d o a3 (q2 d o a1 a2 e)
  have z3 : IsZip h₃ (n + 5) (n + 3) (n + 4) .ellipsis := hs₃.extBut _ _ (by walk_at "o") z2
  have j3 : h₃.IsListIter n l1 (k + 1) := i1.at fun o e => hs₃.extBut n o (by walk_at "o") e
  refine wpAny_bind (wpAny_letGo (wpAny_pure ?_))
  refine wpAny_bind (wpAny_bind (wpAny_onRaise ?_))
  show wpAny _ _ (Builtin.SmallTypes.nextOf (.ref (n + 1)) >>= _) _ _ _
  refine wpAny_bind (wpAny_nextOf_list_item (h2.at fun o e => q3 (n + 1) o (by walk_at "o") (by walk_at "o") (by walk_at "o") e) (g2.at fun o e => q3 l2 o (by walk_at "o") (by walk_at "o") (by walk_at "o") e) hy fun h₄ i2 hs₄ => wpAny_pure ?_)
  have q4 : ∀ (d : Nat) o, d ≠ n + 5 → d ≠ n → d ≠ n + 4 → d ≠ n + 1 → s.heap.get? d = some o → h₄.get? d = some o := fun d o a1 a2 a3 a4 e => hs₄.extBut d o a4 (q3 d o a1 a2 a3 e)
  have z4 : IsZip h₄ (n + 5) (n + 3) (n + 4) .ellipsis := hs₄.extBut _ _ (by walk_at "o") z3
  have j4 : h₄.IsListIter n l1 (k + 1) := j3.at fun o e => hs₄.extBut n o (by walk_at "o") e
  have t4 : IsTri h₄ (n + 4) x b c := hs₄.extBut _ _ (by walk_at "o") t3
  refine wpAny_bind (wpAny_seqItems t4 rfl ?_)
  refine wpAny_bind (upd_tri t4 fun h₅ t5 hs₅ => ?_)
  replace t5 : IsTri h₅ (n + 4) x y c := t5
  have q5 : ∀ (d : Nat) o, d ≠ n + 5 → d ≠ n → d ≠ n + 4 → d ≠ n + 1 → s.heap.get? d = some o → h₅.get? d = some o := fun d o a1 a2 a3 a4 e => hs₅.extBut d o a3 (q4 d o a1 a2 a3 a4 e)
  have z5 : IsZip h₅ (n + 5) (n + 3) (n + 4) .ellipsis := hs₅.extBut _ _ (by walk_at "o") z4
  have j5 : h₅.IsListIter n l1 (k + 1) := j4.at fun o e => hs₅.extBut n o (by walk_at "o") e
  have m5 : h₅.IsListIter (n + 1) l2 (k + 1) := i2.at fun o e => hs₅.extBut (n + 1) o (by walk_at "o") e
  refine wpAny_bind (wpAny_letGo (wpAny_pure ?_))
  refine wpAny_bind (wpAny_bind (wpAny_onRaise ?_))
  show wpAny _ _ (Builtin.SmallTypes.nextOf (.ref (n + 2)) >>= _) _ _ _
  refine wpAny_bind (wpAny_nextOf_list_item (h3.at fun o e => q5 (n + 2) o (by walk_at "o") (by walk_at "o") (by walk_at "o") (by walk_at "o") e) (g3.at fun o e => q5 l3 o (by walk_at "o") (by walk_at "o") (by walk_at "o") (by walk_at "o") e) hv fun h₆ i3 hs₆ => wpAny_pure ?_)
  have z6 : IsZip h₆ (n + 5) (n + 3) (n + 4) .ellipsis := hs₆.extBut _ _ (by walk_at "o") z5
  have j6 : h₆.IsListIter n l1 (k + 1) := j5.at fun o e => hs₆.extBut n o (by walk_at "o") e
  have m6 : h₆.IsListIter (n + 1) l2 (k + 1) := m5.at fun o e => hs₆.extBut (n + 1) o (by walk_at "o") e
  have t6 : IsTri h₆ (n + 4) x y c := hs₆.extBut _ _ (by walk_at "o") t5
  refine wpAny_bind (wpAny_seqItems t6 rfl ?_)
  refine wpAny_bind (upd_tri t6 fun h₇ t7 hs₇ => ?_)
  replace t7 : IsTri h₇ (n + 4) x y v := t7
  have z7 : IsZip h₇ (n + 5) (n + 3) (n + 4) .ellipsis := hs₇.extBut _ _ (by walk_at "o") z6
  have j7 : h₇.IsListIter n l1 (k + 1) := j6.at fun o e => hs₇.extBut n o (by walk_at "o") e
  have m7 : h₇.IsListIter (n + 1) l2 (k + 1) := m6.at fun o e => hs₇.extBut (n + 1) o (by walk_at "o") e
  have p7 : h₇.IsListIter (n + 2) l3 (k + 1) := i3.at fun o e => hs₇.extBut (n + 2) o (by walk_at "o") e
  have q7 : ∀ (d : Nat) o, d ∉ ([n, n + 1, n + 2, n + 4, n + 5] : List Nat) → s.heap.get? d = some o → h₇.get? d = some o := fun d o hd e => by
    simp only [List.mem_cons, List.not_mem_nil, or_false, not_or] at hd
    obtain ⟨a1, a2, a3, a4, a5⟩ := hd
    exact hs₇.extBut d o a4 (hs₆.extBut d o a3 (q5 d o a5 a1 a4 a2 e))
  refine wpAny_bind (wpAny_letGo (wpAny_pure (wpAny_pure ?_)))
  refine wpAny_bind (wpAny_seqItems t7 rfl ?_)
  refine wpAny_bind (wpAny_newTuple ?_)
  have hsz : h₇.objs.size = s.heap.objs.size := by rw [hs₇.1, hs₆.1, hs₅.1, hs₄.1, hs₃.1, hs₂.1, hs₁.1]
  have lz : n + 5 < h₇.objs.size := Heap.lt_size z7
  show wpAny _ _ (Builtin.SmallTypes.ownedTupleHandOut (.ref (n + 5)) (.ref h₇.objs.size) >>= _) _ _ _
  refine wpAny_bind ?_
  unfold Builtin.SmallTypes.ownedTupleHandOut
  have z8 : IsZip (h₇.push { cls := .type "tuple", data := .seq #[x, y, v] }) (n + 5) (n + 3) (n + 4) .ellipsis := Heap.get?_push_of_some _ z7
  refine wpAny_bind (wpAny_setField_rec z8 (by simp) fun h₉ z9 hs₉ => ?_)
  replace z9 : IsZip h₉ (n + 5) (n + 3) (n + 4) (rawInt h₇.objs.size) := z9
  refine wpAny_setField_rec z9 (by simp) fun hA zA hsA => ?_
  replace zA : IsZip hA (n + 5) (n + 3) (n + 4) (rawInt h₇.objs.size) := zA
  have up : ∀ (d : Nat) o, d ≠ n + 5 → h₇.get? d = some o → hA.get? d = some o := fun d o hd e => hsA.extBut d o hd (hs₉.extBut d o hd (Heap.get?_push_of_some _ e))
  have tA : IsTri hA h₇.objs.size x y v := hsA.extBut _ _ (by walk_at "o") (hs₉.extBut _ _ (by walk_at "o") (Heap.get?_push_size _ rfl))
  rw [hsz] at zA tA
  refine wpAny_pure ⟨_, rfl, ?_⟩
  show Q (.ref h₇.objs.size) _
  rw [hsz]
  exact hQ hA zA (up _ _ (by walk_at "o") t7) (j7.at fun o e => up n o (by walk_at "o") e) (m7.at fun o e => up (n + 1) o (by walk_at "o") e) (p7.at fun o e => up (n + 2) o (by walk_at "o") e) tA fun d o hd e => up d o (fun z => hd (by simp [z])) (q7 d o hd e)
theorem zip3_end {n l1 l2 l3 : Nat} {k : Nat} {xs ys zs : Array Value} {a b c : Value} {Q : Fin → Shared → Prop} (hh : A.handled = none) (L1 : l1 < n) (L2 : l2 < n) (L3 : l3 < n)
    (hz : IsZip s.heap (n + 5) (n + 3) (n + 4) .none) (hTI : IsTri s.heap (n + 3) (.ref n) (.ref (n + 1)) (.ref (n + 2))) (hTO : IsTri s.heap (n + 4) a b c)
    (h1 : s.heap.IsListIter n l1 k) (h2 : s.heap.IsListIter (n + 1) l2 k) (h3 : s.heap.IsListIter (n + 2) l3 k) (g1 : s.heap.IsList l1 xs) (g2 : s.heap.IsList l2 ys) (g3 : s.heap.IsList l3 zs)
    (hend : xs[k]? = none ∨ ys[k]? = none ∨ zs[k]? = none)
    (hE : ∀ h' e, (∀ (d : Nat) o, d ∉ ([n, n + 1, n + 2, n + 4, n + 5] : List Nat) → s.heap.get? d = some o → h'.get? d = some o) → (∃ o, h'.get? e = some o ∧ o.cls = .type "StopIteration") → E (.ref e) { s with heap := h' }) :
    wpAny (model prog w) A (Builtin.«zip.__next__» ⟨[.ref (n + 5)], []⟩) Q E s := by
  show wpAny _ _ (field (.ref (n + 5)) 2 >>= _) _ _ _
  refine wpAny_bind (wpAny_field hz rfl (x := .bool false) rfl ?_)
  show wpAny _ _ (field (.ref (n + 5)) 3 >>= _) _ _ _
  refine wpAny_bind (wpAny_field hz rfl (x := .ref (n + 3)) rfl ?_)
  refine wpAny_bind (wpAny_seqItems hTI rfl ?_)
  show wpAny _ _ (Builtin.SmallTypes.ownedTupleIsFree (.ref (n + 5)) >>= _) _ _ _
  refine wpAny_bind ?_
  unfold Builtin.SmallTypes.ownedTupleIsFree
  refine wpAny_bind (wpAny_field hz rfl (x := .none) rfl (wpAny_pure ?_))
  simp only [if_true]
  refine wpAny_bind (wpAny_rule ?_)
  refine wpAny_bind (wpAny_field hz rfl (x := .ref (n + 4)) rfl ?_)
  refine wpAny_bind (wpAny_setField_rec hz (by simp) fun h₁ hz₁ hs₁ => ?_)
  replace hz₁ : IsZip h₁ (n + 5) (n + 3) (n + 4) .ellipsis := hz₁
  have q1 : ∀ (d : Nat) o, d ≠ n + 5 → s.heap.get? d = some o → h₁.get? d = some o := fun d o hd e => hs₁.extBut d o hd e
  have stop : ∀ (h₂ : Heap) (e : Addr), IsZip h₂ (n + 5) (n + 3) (n + 4) .ellipsis → (∀ (d : Nat) o, d ∉ ([n, n + 1, n + 2, n + 4, n + 5] : List Nat) → s.heap.get? d = some o → h₂.get? d = some o) → (∃ o, h₂.get? e = some o ∧ o.cls = .type "StopIteration") →
      ∀ (R : Unit → Shared → Prop), (∀ h₃ : Heap, (∀ (d : Nat) o, d ∉ ([n, n + 1, n + 2, n + 4, n + 5] : List Nat) → s.heap.get? d = some o → h₃.get? d = some o) → (∃ o, h₃.get? e = some o ∧ o.cls = .type "StopIteration") → R () { s with heap := h₃ }) → ∀ E', wpAny (model prog w) A (setField (.ref (n + 5)) 0 .none) R E' { s with heap := h₂ } := fun h₂ e z2 k2 ⟨oe, ho, hc⟩ R hR E' => by
    have ne : e ≠ n + 5 := fun x => by
      subst x; rw [z2] at ho; cases ho; simp at hc
    refine wpAny_setField_rec z2 (by simp) fun h₃ _ hs₃ => hR h₃ (fun d o hd x => hs₃.extBut d o (fun y => hd (by simp [y])) (k2 d o hd x)) ⟨oe, hs₃.extBut _ _ ne ho, hc⟩
  refine wpAny_bind ?_
  simp only [List.zipIdx_cons, List.zipIdx_nil, List.forIn_cons, List.forIn_nil]
  refine wpAny_bind (wpAny_bind (wpAny_onRaise ?_))
  show wpAny _ _ (Builtin.SmallTypes.nextOf (.ref n) >>= _) _ _ _
  have b1 : h₁.IsListIter n l1 k := h1.at fun o e => q1 n o (by walk_at "o") e
  have b2 : h₁.IsList l1 xs := g1.at fun o e => q1 l1 o (by walk_at "o") e
  cases hx : xs[k]? with
  | none =>
    refine wpAny_bind (wpAny_nextOf_list_end hh b1 b2 hx fun h₂ e hs₂ he => ?_)
    refine stop h₂ e (hs₂ _ _ (by walk_at "o") hz₁) (fun d o hd x => ?_) he _ (fun h₃ k3 e3 => hE h₃ e k3 e3) _
    simp only [List.mem_cons, List.not_mem_nil, or_false, not_or] at hd
    exact hs₂ d o hd.1 (q1 d o hd.2.2.2.2 x)
  | some x =>
    refine wpAny_bind (wpAny_nextOf_list_item b1 b2 hx fun h₂ i1 hs₂ => wpAny_pure ?_)
    have q2 : ∀ (d : Nat) o, d ≠ n + 5 → d ≠ n → s.heap.get? d = some o → h₂.get? d = some o := fun d o a1 a2 e => hs₂.extBut d o a2 (q1 d o a1 e)
    have z2 : IsZip h₂ (n + 5) (n + 3) (n + 4) .ellipsis := hs₂.extBut _ _ (by walk_at "o") hz₁
    have t2 : IsTri h₂ (n + 4) a b c := q2 _ _ (by walk_at "o") (by walk_at "o") hTO
    refine wpAny_bind (wpAny_seqItems t2 rfl ?_)
    refine wpAny_bind (upd_tri t2 fun h₃ t3 hs₃ => ?_)
    replace t3 : IsTri h₃ (n + 4) x b c := t3
    have q3 : ∀ (d : Nat) o, d ≠ n + 5 → d ≠ n → d ≠ n + 4 → s.heap.get? d = some o → h₃.get? d = some o := fun d o a1 a2 a3 e => hs₃.extBut d o a3 (q2 d o a1 a2 e)
    have z3 : IsZip h₃ (n + 5) (n + 3) (n + 4) .ellipsis := hs₃.extBut _ _ (by walk_at "o") z2
    refine wpAny_bind (wpAny_letGo (wpAny_pure ?_))
    refine wpAny_bind (wpAny_bind (wpAny_onRaise ?_))
    show wpAny _ _ (Builtin.SmallTypes.nextOf (.ref (n + 1)) >>= _) _ _ _
    have c1 : h₃.IsListIter (n + 1) l2 k := h2.at fun o e => q3 (n + 1) o (by walk_at "o") (by walk_at "o") (by walk_at "o") e
    have c2 : h₃.IsList l2 ys := g2.at fun o e => q3 l2 o (by walk_at "o") (by walk_at "o") (by walk_at "o") e
    cases hy : ys[k]? with
    | none =>
      refine wpAny_bind (wpAny_nextOf_list_end hh c1 c2 hy fun h₄ e hs₄ he => ?_)
      refine stop h₄ e (hs₄ _ _ (by walk_at "o") z3) (fun d o hd x => ?_) he _ (fun h₅ k5 e5 => hE h₅ e k5 e5) _
      simp only [List.mem_cons, List.not_mem_nil, or_false, not_or] at hd
      exact hs₄ d o hd.2.1 (q3 d o hd.2.2.2.2 hd.1 hd.2.2.2.1 x)
    | some y =>
      have hv : zs[k]? = none := by
        rcases hend with h | h | h
        · rw [hx] at h; cases h
        · rw [hy] at h; cases h
        · exact h
      refine wpAny_bind (wpAny_nextOf_list_item c1 c2 hy fun h₄ i2 hs₄ => wpAny_pure ?_)
      have q4 : ∀ (d : Nat) o, d ≠ n + 5 → d ≠ n → d ≠ n + 4 → d ≠ n + 1 → s.heap.get? d = some o → h₄.get? d = some o := fun d o a1 a2 a3 a4 e => hs₄.extBut d o a4 (q3 d o a1 a2 a3 e)
      have z4 : IsZip h₄ (n + 5) (n + 3) (n + 4) .ellipsis := hs₄.extBut _ _ (by walk_at "o") z3
      have t4 : IsTri h₄ (n + 4) x b c := hs₄.extBut _ _ (by walk_at "o") t3
      refine wpAny_bind (wpAny_seqItems t4 rfl ?_)
      refine wpAny_bind (upd_tri t4 fun h₅ t5 hs₅ => ?_)
      have q5 : ∀ (d : Nat) o, d ≠ n + 5 → d ≠ n → d ≠ n + 4 → d ≠ n + 1 → s.heap.get? d = some o → h₅.get? d = some o := fun d o a1 a2 a3 a4 e => hs₅.extBut d o a3 (q4 d o a1 a2 a3 a4 e)
      have z5 : IsZip h₅ (n + 5) (n + 3) (n + 4) .ellipsis := hs₅.extBut _ _ (by walk_at "o") z4
      refine wpAny_bind (wpAny_letGo (wpAny_pure ?_))
      refine wpAny_bind (wpAny_bind (wpAny_onRaise ?_))
      show wpAny _ _ (Builtin.SmallTypes.nextOf (.ref (n + 2)) >>= _) _ _ _
      refine wpAny_bind (wpAny_nextOf_list_end hh (h3.at fun o e => q5 (n + 2) o (by walk_at "o") (by walk_at "o") (by walk_at "o") (by walk_at "o") e) (g3.at fun o e => q5 l3 o (by walk_at "o") (by walk_at "o") (by walk_at "o") (by walk_at "o") e) hv fun h₆ e hs₆ he => ?_)
      refine stop h₆ e (hs₆ _ _ (by walk_at "o") z5) (fun d o hd x => ?_) he _ (fun h₇ k7 e7 => hE h₇ e k7 e7) _
      simp only [List.mem_cons, List.not_mem_nil, or_false, not_or] at hd
      exact hs₆ d o hd.2.2.1 (q5 d o hd.2.2.2.2 hd.1 hd.2.2.2.1 hd.2.1 x)
theorem next_zip3_item {n l1 l2 l3 : Nat} {k : Nat} {xs ys zs : Array Value} {x y v a b c : Value} {Q : Option Value → Shared → Prop} (L1 : l1 < n) (L2 : l2 < n) (L3 : l3 < n)
    (hz : IsZip s.heap (n + 5) (n + 3) (n + 4) .none) (hTI : IsTri s.heap (n + 3) (.ref n) (.ref (n + 1)) (.ref (n + 2))) (hTO : IsTri s.heap (n + 4) a b c)
    (h1 : s.heap.IsListIter n l1 k) (h2 : s.heap.IsListIter (n + 1) l2 k) (h3 : s.heap.IsListIter (n + 2) l3 k) (g1 : s.heap.IsList l1 xs) (g2 : s.heap.IsList l2 ys) (g3 : s.heap.IsList l3 zs)
    (hx : xs[k]? = some x) (hy : ys[k]? = some y) (hv : zs[k]? = some v)
    (hQ : ∀ h', IsZip h' (n + 5) (n + 3) (n + 4) (rawInt s.heap.objs.size) → IsTri h' (n + 4) x y v → h'.IsListIter n l1 (k + 1) → h'.IsListIter (n + 1) l2 (k + 1) → h'.IsListIter (n + 2) l3 (k + 1) → IsTri h' s.heap.objs.size x y v →
      (∀ (d : Nat) o, d ∉ ([n, n + 1, n + 2, n + 4, n + 5] : List Nat) → s.heap.get? d = some o → h'.get? d = some o) → Q (some (.ref s.heap.objs.size)) { s with heap := h' }) :
    wpAny (model prog w) A (pyNext (.ref (n + 5))) Q E s := by
  have hT : s.TypeIs (.ref (n + 5)) "zip" := ⟨_, hz, rfl⟩
  unfold pyNext
  exact wpAny_bind (wpAny_attempt (wpAny_callSpecial?_slot (name := Str.ofString "__next__") hT F.slot_zip_next
    (wpAny_call_entry F.slot_zip_next hT F.entry_zip_next
      (zip3_item L1 L2 L3 hz hTI hTO h1 h2 h3 g1 g2 g3 hx hy hv fun h' a1 a2 a3 a4 a5 a6 a7 => wpAny_pure (hQ h' a1 a2 a3 a4 a5 a6 a7)) (F.args_zip_next_1 _))))
theorem next_zip3_end {n l1 l2 l3 : Nat} {k : Nat} {xs ys zs : Array Value} {a b c : Value} {Q : Option Value → Shared → Prop} (hh : A.handled = none) (L1 : l1 < n) (L2 : l2 < n) (L3 : l3 < n)
    (hz : IsZip s.heap (n + 5) (n + 3) (n + 4) .none) (hTI : IsTri s.heap (n + 3) (.ref n) (.ref (n + 1)) (.ref (n + 2))) (hTO : IsTri s.heap (n + 4) a b c)
    (h1 : s.heap.IsListIter n l1 k) (h2 : s.heap.IsListIter (n + 1) l2 k) (h3 : s.heap.IsListIter (n + 2) l3 k) (g1 : s.heap.IsList l1 xs) (g2 : s.heap.IsList l2 ys) (g3 : s.heap.IsList l3 zs)
    (hend : xs[k]? = none ∨ ys[k]? = none ∨ zs[k]? = none)
    (hQ : ∀ h', (∀ (d : Nat) o, d ∉ ([n, n + 1, n + 2, n + 4, n + 5] : List Nat) → s.heap.get? d = some o → h'.get? d = some o) → Q none { s with heap := h' }) : wpAny (model prog w) A (pyNext (.ref (n + 5))) Q E s := by
  have hT : s.TypeIs (.ref (n + 5)) "zip" := ⟨_, hz, rfl⟩
  unfold pyNext
  refine wpAny_bind (wpAny_attempt (wpAny_callSpecial?_slot (name := Str.ofString "__next__") hT F.slot_zip_next
    (wpAny_call_entry F.slot_zip_next hT F.entry_zip_next (zip3_end hh L1 L2 L3 hz hTI hTO h1 h2 h3 g1 g2 g3 hend fun h' e hk he => ?_) (F.args_zip_next_1 _))))
  obtain ⟨o, ho, hc⟩ := he
  refine wpAny_bind (wpAny_isInstance (T := "StopIteration") (b := true) ⟨o, ho, hc⟩ isSubtype_stop ?_)
  exact wpAny_pure (hQ _ hk)
end
noncomputable abbrev z3a (h : Heap) (l1 : Addr) : Heap := h.push { cls := .type "list_iterator", data := .fields #[.ref l1, .int 0 0] }
noncomputable abbrev z3b (h : Heap) (l1 l2 : Addr) : Heap := (z3a h l1).push { cls := .type "list_iterator", data := .fields #[.ref l2, .int 0 0] }
noncomputable abbrev z3c (h : Heap) (l1 l2 l3 : Addr) : Heap := (z3b h l1 l2).push { cls := .type "list_iterator", data := .fields #[.ref l3, .int 0 0] }
noncomputable abbrev z3d (h : Heap) (l1 l2 l3 : Addr) : Heap := (z3c h l1 l2 l3).push { cls := .type "tuple", data := .seq #[.ref h.objs.size, .ref (z3a h l1).objs.size, .ref (z3b h l1 l2).objs.size] }
noncomputable abbrev z3e (h : Heap) (l1 l2 l3 : Addr) : Heap := (z3d h l1 l2 l3).push { cls := .type "tuple", data := .seq #[.none, .none, .none] }
noncomputable abbrev z3f (h : Heap) (l1 l2 l3 : Addr) : Heap := (z3e h l1 l2 l3).push { cls := .type "zip", data := .fields #[.none, .bool false, .bool false, .ref (z3c h l1 l2 l3).objs.size, .ref (z3d h l1 l2 l3).objs.size] }
theorem meets_zip3 (l1 l2 l3 : Addr) (xs ys zs : Array Value) :
    Meets (Builtin.«zip.__new__» ⟨[.type "zip", .ref l1, .ref l2, .ref l3], []⟩) (fun _ R s => s.heap.IsList l1 xs ∧ s.heap.IsList l2 ys ∧ s.heap.IsList l3 zs ∧
      R (.ok (.ret (.ref (z3e s.heap l1 l2 l3).objs.size))) { s with heap := z3f s.heap l1 l2 l3 }) :=
  .of_wp fun prog w A R s h => by
    obtain ⟨hp, g, d, tk, os⟩ := s; obtain ⟨hl1, hl2, hl3, h⟩ := h
    have hsub := sub_zip
    have hL1 : Heap.IsList (Shared.heap ⟨hp, g, d, tk, os⟩) l1 xs := hl1
    have hL2 : Heap.IsList (Shared.heap ⟨z3a hp l1, g, d, tk, os⟩) l2 ys := Heap.IsList.push hl2 _
    have hL3 : Heap.IsList (Shared.heap ⟨z3b hp l1 l2, g, d, tk, os⟩) l3 zs := Heap.IsList.push (Heap.IsList.push hl3 _) _
    wp_walk using wpAny_pyIter_list hL1, wpAny_pyIter_list hL2, wpAny_pyIter_list hL3
    exact ⟨_, rfl, h⟩
section
variable {prog : Program} {w : World} {A : Around} {E : Value → Shared → Prop} {s : Shared}
theorem call_zip3 {l1 l2 l3 : Addr} {xs ys zs : Array Value} {Q : Value → Shared → Prop} (hl1 : s.heap.IsList l1 xs) (hl2 : s.heap.IsList l2 ys) (hl3 : s.heap.IsList l3 zs)
    (h : ∀ (h' : Heap) (n : Nat), n = s.heap.objs.size → IsZip h' (n + 5) (n + 3) (n + 4) .none → IsTri h' (n + 3) (.ref n) (.ref (n + 1)) (.ref (n + 2)) → IsTri h' (n + 4) .none .none .none → h'.IsListIter n l1 0 → h'.IsListIter (n + 1) l2 0 → h'.IsListIter (n + 2) l3 0 →
      (∀ c o, s.heap.get? c = some o → h'.get? c = some o) → Q (.ref (n + 5)) { s with heap := h' }) :
    wpAny (model prog w) A (call (.type "zip") [.ref l1, .ref l2, .ref l3]) Q E s := by
  refine callType_new F.called_zip (by decide) (typeCall_zip3 _ _ _) (newCall_zip3 _ _ _) (fun obj => args_init4 obj _ _ _) F.entry_zip_new (meets_zip3 l1 l2 l3 xs ys zs) ⟨hl1, hl2, hl3, ?_⟩
  have e1 : (z3a s.heap l1).objs.size = s.heap.objs.size + 1 := Heap.size_push ..
  have e2 : (z3b s.heap l1 l2).objs.size = s.heap.objs.size + 2 := by rw [Heap.size_push, e1]
  have e3 : (z3c s.heap l1 l2 l3).objs.size = s.heap.objs.size + 3 := by rw [Heap.size_push, e2]
  have e4 : (z3d s.heap l1 l2 l3).objs.size = s.heap.objs.size + 4 := by rw [Heap.size_push, e3]
  have e5 : (z3e s.heap l1 l2 l3).objs.size = s.heap.objs.size + 5 := by rw [Heap.size_push, e4]
  have pu : ∀ (h : Heap) (o : Obj) {c : Addr} {x : Obj}, h.get? c = some x → (h.push o).get? c = some x := fun h o c x e => Heap.get?_push_of_some _ e
  have f6 : (z3f s.heap l1 l2 l3).get? (z3e s.heap l1 l2 l3).objs.size = some _ := Heap.get?_push_size _ rfl
  have f5 : (z3f s.heap l1 l2 l3).get? (z3d s.heap l1 l2 l3).objs.size = some _ := pu _ _ (Heap.get?_push_size _ rfl)
  have f4 : (z3f s.heap l1 l2 l3).get? (z3c s.heap l1 l2 l3).objs.size = some _ := pu _ _ (pu _ _ (Heap.get?_push_size _ rfl))
  have f3 : (z3f s.heap l1 l2 l3).get? (z3b s.heap l1 l2).objs.size = some _ := pu _ _ (pu _ _ (pu _ _ (Heap.get?_push_size _ rfl)))
  have f2 : (z3f s.heap l1 l2 l3).get? (z3a s.heap l1).objs.size = some _ := pu _ _ (pu _ _ (pu _ _ (pu _ _ (Heap.get?_push_size _ rfl))))
  have f1 : (z3f s.heap l1 l2 l3).get? s.heap.objs.size = some _ := pu _ _ (pu _ _ (pu _ _ (pu _ _ (pu _ _ (Heap.get?_push_size _ rfl)))))
  show _ ∧ _
  rw [e5, e3, e4] at f6
  rw [e3, e1, e2] at f4
  rw [e4] at f5
  rw [e2] at f3
  rw [e1] at f2
  rw [e5]
  exact ⟨⟨_, f6, rfl⟩, h _ _ rfl f6 f4 f5 ⟨_, f1, rfl, rfl⟩ ⟨_, f2, rfl, rfl⟩ ⟨_, f3, rfl, rfl⟩ fun c o x => pu _ _ (pu _ _ (pu _ _ (pu _ _ (pu _ _ (pu _ _ x)))))⟩
end
noncomputable def Itz3 (K : PySem.W.Frag) (a b c : Addr) : It :=
  ⟨fun i H => ∃ xs ys zs, SqL K H a xs ∧ SqL K H b ys ∧ SqL K H c zs ∧ i < xs.length ∧ i < ys.length ∧ i < zs.length,
   fun i H x H' => ∃ T u v t, x = .ref T ∧ H T = none ∧ H' = upd H T (.tup [u, v, t]) ∧ (∀ xs, SqL K H a xs → xs[i]? = some u) ∧ (∀ ys, SqL K H b ys → ys[i]? = some v) ∧ ∀ zs, SqL K H c zs → zs[i]? = some t,
   fun i H => ∃ xs ys zs, SqL K H a xs ∧ SqL K H b ys ∧ SqL K H c zs ∧ (xs.length ≤ i ∨ ys.length ≤ i ∨ zs.length ≤ i)⟩
theorem vals_at {xs : List V} {its : List Value} (rv : Vals xs its) {i : Nat} (h : i < xs.length) : ∃ u x, xs[i]? = some u ∧ its.toArray[i]? = some x ∧ RelV u x := by
  have e1 : xs[i]? = some xs[i] := List.getElem?_eq_getElem h
  obtain ⟨x, e3, r1⟩ := rv.get e1
  exact ⟨_, x, e1, by simpa using e3, r1⟩
theorem turn_zip3 {P : Program} {w : World} {K : PySem.W.Frag} {elts : List Expr} {k : Nat} {pos : Pos} {n l1 l2 l3 : Nat} (L1 : l1 < n) (L2 : l2 < n) (L3 : l3 < n) :
    Turn P w K (.Tuple elts k pos) (Itz3 K l1 l2 l3) [n + 5, n + 3, n + 4, n, n + 1, n + 2] (n + 5) (fun i h => IsZip h (n + 5) (n + 3) (n + 4) .none ∧ IsTri h (n + 3) (.ref n) (.ref (n + 1)) (.ref (n + 2)) ∧ (∃ a b c, IsTri h (n + 4) a b c) ∧ h.IsListIter n l1 i ∧ h.IsListIter (n + 1) l2 i ∧ h.IsListIter (n + 2) l3 i) where
  mem := by simp
  obj := fun i h st b hb => by
    obtain ⟨hz, hTI, ⟨x, y, t, hTO⟩, ⟨o1, e1, _, d1⟩, ⟨o2, e2, _, d2⟩, ⟨o3, e3, _, d3⟩⟩ := st
    simp only [List.mem_cons, List.not_mem_nil, or_false] at hb
    rcases hb with rfl | rfl | rfl | rfl | rfl | rfl
    · exact ⟨_, hz, fun v q => by cases q⟩
    · exact ⟨_, hTI, fun v q => by cases q⟩
    · exact ⟨_, hTO, fun v q => by cases q⟩
    · exact ⟨o1, e1, fun v q => by rw [d1] at q; cases q⟩
    · exact ⟨o2, e2, fun v q => by rw [d2] at q; cases q⟩
    · exact ⟨o3, e3, fun v q => by rw [d3] at q; cases q⟩
  keep := fun i h h' st kp => by
    obtain ⟨hz, hTI, ⟨x, y, t, hTO⟩, h1, h2, h3⟩ := st
    exact ⟨kp _ (by simp) _ hz, kp _ (by simp) _ hTI, ⟨x, y, t, kp _ (by simp) _ hTO⟩, h1.at fun o e => kp _ (by simp) o e, h2.at fun o e => kp _ (by simp) o e, h3.at fun o e => kp _ (by simp) o e⟩
  item := by
    intro X hP hw hK hc i pins s σ H E I hf st hg
    subst hP hw hK
    obtain ⟨xs, ys, zs, q1, q2, q3, g1, g2, g3⟩ := hg
    obtain ⟨its1, rv1, p1, z1⟩ := I.list q1
    obtain ⟨its2, rv2, p2, z2⟩ := I.list q2
    obtain ⟨its3, rv3, p3, z3⟩ := I.list q3
    obtain ⟨hz, hTI, ⟨x0, y0, t0, hTO⟩, h1, h2, h3⟩ := st
    obtain ⟨u, x, e1, f1, r1⟩ := vals_at rv1 g1
    obtain ⟨v, y, e2, f2, r2⟩ := vals_at rv2 g2
    obtain ⟨t, c, e3, f3, r3⟩ := vals_at rv3 g3
    refine next_zip3_item L1 L2 L3 hz hTI hTO h1 h2 h3 p1.isList p2.isList p3.isList f1 f2 f3 fun h' hz' hTO' i1 i2 i3 hT kk => ?_
    refine ⟨_, rfl, wpAny_letOwnedTupleGo_zip hz' fun h3' hz3 hs3 => ?_⟩
    have fw : ∀ b ∈ [n, n + 1, n + 2, n + 4, n + 5], FpOk X pins H b := fun b hb => hf b (by
      simp only [List.mem_cons, List.not_mem_nil, or_false] at hb ⊢
      rcases hb with rfl | rfl | rfl | rfl | rfl <;> simp)
    have I1 : Inv X pins σ H { s with heap := h' } := inv_turnedAll (t' := s.toks) I kk fw
    have I2 : Inv X pins σ H { s with heap := h3' } := inv_turnedAll (s := { s with heap := h' }) (t' := s.toks) (ws := [n + 5]) I1 (fun b o hb e => hs3.extBut b o (by simpa using hb) e) fun b hb => hf b (by
      have : b = n + 5 := by simpa using hb
      simp [this])
    have szl : n + 5 < s.heap.objs.size := Heap.lt_size hz
    have hT3 : h3'.IsTuple s.heap.objs.size #[x, y, c] := ⟨_, hs3.extBut _ _ (by walk_at "o") hT, rfl, _, rfl⟩
    have fT : FpOk X pins H s.heap.objs.size := I.fpOk (Nat.le_refl _) (I.hok.fresh (Nat.le_refl _))
    have I3 := inv_tup (xs := [u, v, t]) (its := [x, y, c]) I2 fT I.sz hT3 (.cons r1 (.cons r2 (.cons r3 .nil))) (Nat.le_of_lt (small1000 (by show 3 ≤ 1000; decide)))
    refine ⟨.ref s.heap.objs.size, upd H s.heap.objs.size (.tup [u, v, t]), I3, rfl, ⟨_, u, v, t, rfl, fT.1, rfl, fun xs' h => by rw [I.list_inj h q1]; exact e1, fun ys' h => by rw [I.list_inj h q2]; exact e2, fun zs' h => by rw [I.list_inj h q3]; exact e3⟩, ⟨hz3, ?_, ⟨x, y, c, hs3.extBut _ _ (by walk_at "o") hTO'⟩, i1.at fun o e => hs3.extBut _ o (by walk_at "o") e, i2.at fun o e => hs3.extBut _ o (by walk_at "o") e, i3.at fun o e => hs3.extBut _ o (by walk_at "o") e⟩, fun b hb => ?_⟩
    · refine hs3.extBut _ _ (by walk_at "o") (kk _ _ ?_ hTI)
      simp only [List.mem_cons, List.not_mem_nil, or_false]
      omega
    · rw [upd_ne]
      · exact (hf b hb).1
      · simp only [List.mem_cons, List.not_mem_nil, or_false] at hb
        rcases hb with rfl | rfl | rfl | rfl | rfl | rfl <;> walk_at "o"
  done := by
    intro X hP hw hK hc i pins s σ H E I hf st hg
    subst hP hw hK
    obtain ⟨xs, ys, zs, q1, q2, q3, g⟩ := hg
    obtain ⟨its1, rv1, p1, z1⟩ := I.list q1
    obtain ⟨its2, rv2, p2, z2⟩ := I.list q2
    obtain ⟨its3, rv3, p3, z3⟩ := I.list q3
    obtain ⟨hz, hTI, ⟨x0, y0, t0, hTO⟩, h1, h2, h3⟩ := st
    have M1 := rv1.length
    have M2 := rv2.length
    have M3 := rv3.length
    refine next_zip3_end (I.ok.hd hc) L1 L2 L3 hz hTI hTO h1 h2 h3 p1.isList p2.isList p3.isList ?_ fun h' hk => ⟨rfl, ?_⟩
    · rcases g with g | g | g
      · exact .inl (by simp; omega)
      · exact .inr (.inl (by simp; omega))
      · exact .inr (.inr (by simp; omega))
    · exact inv_turnedAll (t' := s.toks) I hk fun b hb => hf b (by
        simp only [List.mem_cons, List.not_mem_nil, or_false] at hb ⊢
        rcases hb with rfl | rfl | rfl | rfl | rfl <;> simp)
  self := fun _ _ _ _ _ st h => wpAny_pyIter_zip st.1 h
section
variable {X : Cx} {K : PySem.W.Frag}
noncomputable def iZip3 (K : PySem.W.Frag) (t : TA) : TI := fun σ H R => t σ H fun vs H1 => ∃ a b c, vs = [.ref a, .ref b, .ref c] ∧ (∃ xs, SqL K H1 a xs) ∧ (∃ ys, SqL K H1 b ys) ∧ (∃ zs, SqL K H1 c zs) ∧ R (Itz3 K a b c) H1
theorem vals3 {x y z : V} {us : List Value} (h : Vals [x, y, z] us) : ∃ a b c, us = [a, b, c] ∧ RelV x a ∧ RelV y b ∧ RelV z c := by
  cases h with
  | cons r t =>
    obtain ⟨b, c, rfl, h1, h2⟩ := vals2 t
    exact ⟨_, b, c, rfl, r, h1, h2⟩
theorem pi_zip3 {elts : List Expr} {k : Nat} {tpos : Pos} {a b c : Expr} {ta : TA} {p pos : Pos} (hK : X.K = K) (hg : Gl X "zip") (hm : X.mg "zip" = none) (ha : PA X [a, b, c] ta) (hs : starEach [a, b, c] X.env = [(false, eval a X.env), (false, eval b X.env), (false, eval c X.env)] := by rfl) (hs2 : starEach [b, c] X.env = [(false, eval b X.env), (false, eval c X.env)] := by rfl) :
    PI X (.Tuple elts k tpos) (.Call (.Name "zip" p) [a, b, c] [] pos) (iZip3 K ta) := by
  subst hK
  intro pins s σ H R I h
  refine Call_ (ld_blt I hg hm boot_zip (PyProof.Rows.callWith_type1 (thn (ha pos pins s σ H _ I h) fun us s1 ⟨vs, H1, I1, r1, q1⟩ => ?_) (by rw [hs, hs2]) (by rw [hs2]; rfl)))
  obtain ⟨a', b', c', e, ⟨xs, g1⟩, ⟨ys, g2⟩, ⟨zs, g3⟩, q⟩ := q1
  subst e
  obtain ⟨u, v, t, rfl, ru, rv, rt⟩ := vals3 r1
  cases ru; cases rv; cases rt
  obtain ⟨its1, rv1, p1, z1⟩ := I1.list g1
  obtain ⟨its2, rv2, p2, z2⟩ := I1.list g2
  obtain ⟨its3, rv3, p3, z3⟩ := I1.list g3
  have a1 : a' < s1.heap.objs.size := by obtain ⟨_, e, _⟩ := p1.isList; exact Heap.lt_size e
  have a2 : b' < s1.heap.objs.size := by obtain ⟨_, e, _⟩ := p2.isList; exact Heap.lt_size e
  have a3 : c' < s1.heap.objs.size := by obtain ⟨_, e, _⟩ := p3.isList; exact Heap.lt_size e
  refine call_zip3 p1.isList p2.isList p3.isList fun h' n hn hz hTI hTO hi1 hi2 hi3 hk => wpAny_pyIter_zip hz ?_
  rw [← hn] at a1 a2 a3
  refine ⟨n + 5, [n + 5, n + 3, n + 4, n, n + 1, n + 2], _, _, H1, rfl, I1.kept (t' := s1.toks) hk, turn_zip3 a1 a2 a3, ⟨hz, hTI, ⟨_, _, _, hTO⟩, hi1, hi2, hi3⟩, fun b hb => ?_, q⟩
  have hb2 : s1.heap.objs.size ≤ b := by
    rw [← hn]
    simp only [List.mem_cons, List.not_mem_nil, or_false] at hb
    rcases hb with rfl | rfl | rfl | rfl | rfl | rfl <;> first | exact Nat.le_add_right _ _ | exact Nat.le_refl _
  exact I1.fpOk hb2 (I1.hok.fresh hb2)
end
section
variable {K : PySem.W.Frag} {H₀ : Hp} {E : XK} {ta tb tc : TE} {da db dc : DE} {dl dk dm : DL}
noncomputable def triD : List PyData → List PyData → List PyData → List PyData
  | x :: xs, y :: ys, z :: zs => .tuple [x, y, z] :: triD xs ys zs
  | _, _, _ => []
theorem triD_spec : ∀ (xs ys zs : List PyData) (i : Nat), (∀ d, (triD xs ys zs)[i]? = some d → ∃ x y z, xs[i]? = some x ∧ ys[i]? = some y ∧ zs[i]? = some z ∧ d = .tuple [x, y, z]) ∧ ((triD xs ys zs).length ≤ i → xs.length ≤ i ∨ ys.length ≤ i ∨ zs.length ≤ i)
  | [], ys, zs, i => ⟨fun d h => by simp [triD] at h, fun _ => .inl (Nat.zero_le _)⟩
  | x :: xs, [], zs, i => ⟨fun d h => by simp [triD] at h, fun _ => .inr (.inl (Nat.zero_le _))⟩
  | x :: xs, y :: ys, [], i => ⟨fun d h => by simp [triD] at h, fun _ => .inr (.inr (Nat.zero_le _))⟩
  | x :: xs, y :: ys, z :: zs, 0 => ⟨fun d h => ⟨x, y, z, rfl, rfl, rfl, by simpa [triD] using h.symm⟩, fun h => by simp [triD] at h⟩
  | x :: xs, y :: ys, z :: zs, i + 1 => by
    obtain ⟨h1, h2⟩ := triD_spec xs ys zs i
    refine ⟨fun d h => ?_, fun h => ?_⟩
    · obtain ⟨a, b, c, e1, e2, e3, e4⟩ := h1 d (by simpa [triD] using h)
      exact ⟨a, b, c, by simpa using e1, by simpa using e2, by simpa using e3, e4⟩
    · have := h2 (by simpa [triD] using h)
      simp only [List.length_cons]
      omega
noncomputable def dZip3 (dl dk dm : DL) (ex : DX) (δ : DEn) (Q : List PyData → Prop) : Prop := dl ex δ fun xs => dk ex δ fun ys => dm ex δ fun zs => Q (triD xs ys zs)
theorem itz3_ok {a b c : Addr} {vs ws us : List V} {xs ys zs : List PyData} {G H : Hp} (s : Sub G H) (h1 : SqL K H a vs) (h2 : SqL K H b ws) (h3 : SqL K H c us) (d1 : DVs K G vs xs) (d2 : DVs K G ws ys) (d3 : DVs K G us zs) (i : Nat) :
    (∀ d, (triD xs ys zs)[i]? = some d → (Itz3 K a b c).go i H ∧ ∀ x H2, (Itz3 K a b c).yld i H x H2 → ∃ G2, Ext G H G2 H2 ∧ DV K G2 x d) ∧ ((triD xs ys zs).length ≤ i → (Itz3 K a b c).stop i H) := by
  obtain ⟨s1, s2⟩ := triD_spec xs ys zs i
  refine ⟨fun d hi => ?_, fun hi => ⟨vs, ws, us, h1, h2, h3, ?_⟩⟩
  · obtain ⟨x, y, z, e1, e2, e3, rfl⟩ := s1 d hi
    obtain ⟨u, f1, f2⟩ := d1.at e1
    obtain ⟨v, g1, g2⟩ := d2.at e2
    obtain ⟨t, k1, k2⟩ := d3.at e3
    refine ⟨⟨vs, ws, us, h1, h2, h3, (List.getElem?_eq_some_iff.mp f1).1, (List.getElem?_eq_some_iff.mp g1).1, (List.getElem?_eq_some_iff.mp k1).1⟩, fun z' H2 ⟨T, u', v', t', e4, hT, e5, m1, m2, m3⟩ => ?_⟩
    subst e4 e5
    have q1 := m1 vs h1
    have q2 := m2 ws h2
    have q3 := m3 us h3
    rw [f1] at q1; rw [g1] at q2; rw [k1] at q3
    cases q1; cases q2; cases q3
    have e := ext_new (xs := [u, v, t]) s hT
    exact ⟨_, e, .tup (SqT.of upd_same) (.cons (dv_same e.g f2) (.cons (dv_same e.g g2) (.cons (dv_same e.g k2) .nil)))⟩
  · have := s2 hi
    have := d1.len
    have := d2.len
    have := d3.len
    omega
theorem is_zip3 (h1 : EvD K H₀ E ta da) (h2 : EvD K H₀ E tb db) (h3 : EvD K H₀ E tc dc) : IvS K H₀ E (iZip3 K (tCons ta (tCons tb (tCons tc tNil)))) (dZip3 (dAsL da) (dAsL db) (dAsL dc)) := fun ex δ σ G H Qd R hx S q k =>
  h1 ex δ σ G H _ _ hx S q fun v d G1 H1 e1 hd q1 => by
    cases d with
    | list xs =>
      refine h2 ex δ σ G1 H1 _ _ hx (S.ext e1) q1 fun v2 d2 G2 H2 e2 hd2 q2 => ?_
      cases d2 with
      | list ys =>
        refine h3 ex δ σ G2 H2 _ _ hx ((S.ext e1).ext e2) q2 fun v3 d3 G3 H3 e3 hd3 q3 => ?_
        cases d3 with
        | list zs =>
          obtain ⟨a, vs, rfl, a1, a2⟩ := dv_list hd
          obtain ⟨b, ws, rfl, b1, b2⟩ := dv_list hd2
          obtain ⟨c, us, rfl, c1, c2⟩ := dv_list hd3
          refine ⟨a, b, c, rfl, ⟨vs, e3.h.seq (e2.h.seq (e1.s.same.seq a1))⟩, ⟨ws, e3.h.seq (e2.s.same.seq b1)⟩, ⟨us, e3.s.same.seq c1⟩, k _ _ G3 H3 ((e1.trans e2).trans e3) (fun G' H' s1 s2 i => ?_) q3⟩
          exact itz3_ok s2 (s2.same.seq (s1.seq (e3.g.seq (e2.g.seq a1)))) (s2.same.seq (s1.seq (e3.g.seq b1))) (s2.same.seq (s1.seq c1)) (dvs_same s1 (dvs_same e3.g (dvs_same e2.g a2))) (dvs_same s1 (dvs_same e3.g b2)) (dvs_same s1 c2) i
        | _ => exact q3.elim
      | _ => exact q2.elim
    | _ => exact q1.elim
end
theorem noOwn_map (o : Option PyData) (δ : DEn) : noOwn (o.map Sl.dat :: δ) = noOwn δ := by
  cases o <;> rfl
section
variable {K : PySem.W.Frag} {H₀ : Hp} {E : XK} {te ta tb : TE} {da db de : DE} {ts : TS} {ds : DS}
noncomputable def dFrzE (i : Nat) (d : DS) (e : DEnds) (δ : DEn) : Prop := d { e with nx := fun δ' => e.nx (frzAt i δ') } δ
theorem sv_frzE (i : Nat) (h : SvD K H₀ E ts ds) : SvD K H₀ E ts (dFrzE i ds) := fun δ σ G H e D hx S q L =>
  h δ σ G H { e with nx := fun δ' => e.nx (frzAt i δ') } D hx S q ⟨fun δ' σ' G' H' t S' q' => by
    change e.nx (frzAt i δ') at q'
    unfold frzAt at q'
    split at q'
    · rename_i xs hs
      obtain ⟨G2, s2, S2⟩ := S'.frz hs
      exact L.nx _ σ' G2 H' (t.trans s2) S2 q'
    · exact L.nx _ σ' G' H' t S' q', L.rt, L.bk, L.ct⟩
noncomputable def dPut1 (i : Nat) (dx : DE) (d : PyData) (ex : DX) (δ : DEn) (Q : DEn → Prop) : Prop := match slot δ i with
  | some (.own ds) => dx ex δ fun y => (match y with
    | .int k => ∃ j, ixN ds.length k = some j ∧ Q (put (some (.own (ds.set j d))) i δ)
    | _ => False)
  | _ => False
theorem put1_ok {i : Nat} (h' : BvD K H₀ E ta da) {ex : DX} {δ : DEn} {σ : L2.St} {G H : Hp} {v : V} {d : PyData} {Qd : DEn → Prop} {R : L2.St → Hp → Prop} (hx : ExOk H₀ E ex) (S : Sees K H₀ G δ σ H) (hd : DV K G v d) (q : dPut1 i da d ex δ Qd)
    (k : ∀ δ' G' H', Same G G' → Sees K H₀ G' δ' σ H' → Qd δ' → R σ H') : gSub (tVar i) ta rSetL v σ H R := by
  unfold dPut1 at q
  split at q
  · rename_i ds hs
    obtain ⟨a, vs, h1, h2, h3, h4⟩ := S.ownAt hs
    refine ⟨_, h1, h' ex δ σ G H _ _ hx S q fun y dy G2 H2 x2 hy q2 => ?_⟩
    cases dy with
    | int m =>
      obtain ⟨j, hj, q2⟩ := q2
      cases dv_int hy
      have S2 := S.ext x2
      exact ⟨a, vs, m, j, rfl, rfl, x2.h _ _ h3, by rw [h4.len]; exact hj, k _ G2 _ x2.g (S2.updO hs h1 ((dvs_same x2.g h4).set (dv_same x2.g hd) j)) q2⟩
    | _ => exact q2.elim
  · exact q.elim
noncomputable def dPut2 (i j : Nat) (de dx dy : DE) (e : DEnds) (δ : DEn) : Prop := de e.ex δ fun t => match t with
  | .tuple [d1, d2] => dPut1 i dx d1 e.ex δ fun δ1 => dPut1 j dy d2 e.ex δ1 e.nx
  | _ => False
theorem sv_put2 (i j : Nat) (h : EvD K H₀ E te de) (h1 : BvD K H₀ E ta da) (h2 : BvD K H₀ E tb db) : SvD K H₀ E (tAsg te (gTup K 2 (gCons (gSub (tVar i) ta rSetL) (gCons (gSub (tVar j) tb rSetL) gNil)))) (dPut2 i j de da db) := fun δ σ G H e D hx S q L =>
  h e.ex δ σ G H _ _ hx S q fun v d G' H' x hd qd => by
    split at qd
    · rename_i d1 d2
      have S' := S.ext x
      obtain ⟨a, vs, rfl, t1, t2⟩ := dv_tuple hd
      obtain ⟨u1, u2, rfl, r1, r2⟩ := dvs2 t2
      refine ⟨a, _, rfl, sqT_same S'.sub.same t1, rfl, u1, _, rfl, put1_ok h1 hx S' r1 qd fun δ1 G1 H1 s1 S1 q1 => ?_⟩
      refine ⟨u2, _, rfl, put1_ok h2 hx S1 (dv_same s1 r2) q1 fun δ2 G2 H2 s2 S2 q2 => ⟨rfl, L.nx _ _ G2 _ ((x.g.trans s1).trans s2) S2 q2⟩⟩
    · exact qd.elim
end
section
variable {K : PySem.W.Frag} {H₀ : Hp} {E : XK} {dl : DL} {tt : TT} {dt : DT} {ts : TS} {ds : DS} {g : TG} {dg : DG} {ns : List Nat}
end
noncomputable abbrev D2 := DX → DEn → (List PyData → List PyData → Prop) → Prop
noncomputable def O2D (K : PySem.W.Frag) (H₀ : Hp) (E : XK) (t : TA) (d : D2) : Prop := ∀ ex δ σ G H Qd Q, ExOk H₀ E ex → Sees K H₀ G δ σ H → d ex δ Qd →
  (∀ a b vs ws xs ys G' H', Ext G H G' H' → a ≠ b → H₀ a = none → H₀ b = none → G' a = none → G' b = none → H' a = some (.lst vs) → H' b = some (.lst ws) → DVs K G' vs xs → DVs K G' ws ys → Qd xs ys → Q [.ref a, .ref b] H') → t σ H Q
noncomputable def dOV (i : Nat) (_ex : DX) (δ : DEn) (Q : List PyData → Prop) : Prop := match slot δ i with
  | some (.own ds) => Q ds
  | _ => False
noncomputable def d2 (dl dk : DL) (ex : DX) (δ : DEn) (Q : List PyData → List PyData → Prop) : Prop := dl ex δ fun xs => dk ex δ fun ys => Q xs ys
section
variable {K : PySem.W.Frag} {H₀ : Hp} {E : XK} {ta tb : TE} {dl dk : DL} {t : TA}
theorem ov_of {δ : DEn} {i : Nat} {ex : DX} {Q : List PyData → Prop} (q : dOV i ex δ Q) : ∃ ds, slot δ i = some (.own ds) ∧ Q ds := by
  unfold dOV at q
  split at q
  · rename_i ds hs
    exact ⟨ds, hs, q⟩
  · exact q.elim
theorem o2_vn (i : Nat) (hb : OvD K H₀ E tb dk) : O2D K H₀ E (tCons (tVar i) (tCons tb tNil)) (d2 (dOV i) dk) := fun ex δ σ G H Qd Q hx S q k => by
  obtain ⟨xs, hs, q⟩ := ov_of q
  obtain ⟨a, vs, s1, g1, h1, v1⟩ := S.ownAt hs
  refine ⟨_, s1, hb ex δ σ G H _ _ hx S q fun b ws ys G2 H2 e2 n2 g2 h2 v2 q2 => ?_⟩
  exact k a b vs ws xs ys G2 H2 e2 (fun z => by subst z; rw [h1] at n2; cases n2) (S.old.free g1) (S.oldH.free n2) (e2.keep g1 h1) g2 (e2.h _ _ h1) h2 (dvs_same e2.g v1) v2 q2
theorem o2_vv (i j : Nat) (hij : i ≠ j) : O2D K H₀ E (tCons (tVar i) (tCons (tVar j) tNil)) (d2 (dOV i) (dOV j)) := fun ex δ σ G H Qd Q hx S q k => by
  obtain ⟨xs, hs, q⟩ := ov_of q
  obtain ⟨ys, hs2, q⟩ := ov_of q
  obtain ⟨a, vs, s1, g1, h1, v1⟩ := S.ownAt hs
  obtain ⟨b, ws, s2, g2, h2, v2⟩ := S.ownAt hs2
  exact ⟨_, s1, _, s2, k a b vs ws xs ys G H S.refl (fun z => by subst z; exact hij (S.sep i j xs ys _ hs hs2 s1 s2)) (S.old.free g1) (S.old.free g2) g1 g2 h1 h2 v1 v2 q⟩
noncomputable def dRet2 (d : D2) (e : DEnds) (δ : DEn) : Prop := d e.ex δ fun xs ys => e.rt (.two xs ys)
theorem sv_ret2 {d : D2} (h : O2D K H₀ E t d) : SvD K H₀ E (tRet (tTup t)) (dRet2 d) := fun δ σ G H e D hx S q L =>
  h e.ex δ σ G H _ _ hx S q fun a b vs ws xs ys G1 H1 e1 hab a0 b0 ga gb ha hb va vb q1 => by
    refine ⟨Nat.le_of_lt (small1000 (by simp)), fun p hp => ?_⟩
    have pa : a ≠ p := ne_of_none ha hp
    have pb : b ≠ p := ne_of_none hb hp
    have sm : Same G1 (rm (rm (upd H1 p (.tup [.ref a, .ref b])) a) b) := fun c o z => by
      have hc := e1.s.same c o z
      unfold rm
      rw [if_neg (ne_of_none z gb), if_neg (ne_of_none z ga), upd_ne (ne_of_none hc hp)]
      exact hc
    refine L.rt (.ref p) (.two xs ys) _ (((S.ext e1).oldH).trans fun c o z => by rw [upd_ne (ne_of_none z hp)]; exact z) ⟨p, a, b, vs, ws, rfl, SqT.of upd_same, hab, a0, b0, ?_, ?_, dvs_same sm va, dvs_same sm vb⟩ q1
    · rw [upd_ne pa]; exact ha
    · rw [upd_ne pb]; exact hb
theorem ret_two {G H H' : Hp} {v : V} {s : Sl} {Q : List PyData → List PyData → Prop} (hs : Sub G H) (h : Same H H') (r : RetIs K H H' v s) (q : twoS Q s) :
    ∃ t a b vs ws xs ys G', v = .ref t ∧ SqT K H' t [.ref a, .ref b] ∧ a ≠ b ∧ Ext G H G' H' ∧ H a = none ∧ H b = none ∧ G' a = none ∧ G' b = none ∧ H' a = some (.lst vs) ∧ H' b = some (.lst ws) ∧ DVs K G' vs xs ∧ DVs K G' ws ys ∧ Q xs ys := by
  cases s with
  | exc C => exact r.elim
  | fz _ _ => exact r.elim
  | dat d => exact q.elim
  | own ds => exact q.elim
  | two xs ys =>
    obtain ⟨t, a, b, vs, ws, rfl, ht, hab, na, nb, ha, hb, va, vb⟩ := r
    obtain ⟨f1, f2, q⟩ := q
    have e := ext_grow hs h
    have ga : G a = none := hs.same.free na
    have gb : G b = none := hs.same.free nb
    have fl : ∀ c o, rm (rm H' a) b c = some o → (∀ xs, o ≠ .lst xs) → rm (rm (grow G H H') a) b c = some o := fun c o z n => by
      unfold rm at z ⊢
      split at z
      · cases z
      · rename_i cb
        rw [if_neg cb]
        split at z
        · cases z
        · rename_i ca
          rw [if_neg ca]
          exact grow_flat hs h c o z n
    refine ⟨t, a, b, vs, ws, xs, ys, rm (rm (grow G H H') a) b, rfl, ht, hab, ⟨fun c o z => ?_, h, fun c => ?_, fun c o z => ?_⟩, na, nb, ?_, by unfold rm; rw [if_pos rfl], ha, hb, dvs_flat fl va f1, dvs_flat fl vb f2, q⟩
    · unfold rm
      rw [if_neg (ne_of_none z gb), if_neg (ne_of_none z ga)]
      exact e.g c o z
    · unfold rm
      split
      · rename_i z; subst z
        exact .inr ⟨rfl, ws, hb⟩
      · split
        · rename_i z; subst z
          exact .inr ⟨rfl, vs, ha⟩
        · exact e.s c
    · exact e.n c o (rm2_same _ _ z)
    · unfold rm
      split
      · rfl
      · rw [if_pos rfl]
theorem sees_two {G H : Hp} {δ : DEn} {σ : L2.St} {G' H' : Hp} {a b : Addr} {vs ws : List V} {xs ys : List PyData} (S : Sees K H₀ G δ σ H) (e : Ext G H G' H') (i j : Nat) (hij : i ≠ j) (hab : a ≠ b) (na : H a = none) (nb : H b = none) (ga : G' a = none) (gb : G' b = none)
    (ha : H' a = some (.lst vs)) (hb : H' b = some (.lst ws)) (va : DVs K G' vs xs) (vb : DVs K G' ws ys) :
    Sees K H₀ G' (put (some (.own ys)) j (put (some (.own xs)) i δ)) ((σ.set i (some (.ref a))).set j (some (.ref b))) H' := by
  have S1 := S.setO e i na ga ha va
  refine S1.setS j (s := .own ys) ⟨b, ws, rfl, gb, hb, vb⟩ fun _ k es c _ h1 h2 z => ?_
  cases z
  rw [slot_put] at h1
  split at h1
  · rename_i hc
    obtain ⟨rfl, hl⟩ := hc
    rw [List.getElem?_set_self (Nat.lt_of_lt_of_le hl S.len)] at h2
    cases h2
    exact hab rfl
  · rename_i hc
    have hki : k ≠ i := fun z => hc ⟨z, by rw [← z]; exact slot_lt h1⟩
    rw [List.getElem?_set_ne (Ne.symm hki)] at h2
    obtain ⟨c, us, q1, q2, q3, q4⟩ := S.ownAt h1
    rw [h2] at q1
    cases q1
    rw [nb] at q3; cases q3
noncomputable def dSet20 (w : DW) (dl : DL) (i j : Nat) (e : DEnds) (δ : DEn) : Prop := dl e.ex δ fun ds => w ds (twoS fun xs ys => e.nx (put (some (.own ys)) j (put (some (.own xs)) i δ))) fun _ => False
theorem sv_set20 {w : DW} (i j : Nat) (hij : i ≠ j) (ha : AvD K H₀ E t dl) : SvD K H₀ E (tAsg (tCall (spW K w) [] E0 t) (gTup K 2 (gCons (gName i) (gCons (gName j) gNil)))) (dSet20 w dl i j) := fun δ σ G H e D hx S q L =>
  ha e.ex δ σ G H _ _ hx S q fun vs ds G1 H1 e1 h1 q1 => by
    refine ⟨ds, _, fun _ => False, by rw [List.append_nil]; exact h1, q1, fun v s H2 sm r qs => ?_, fun C H2 sm hc => hc.elim⟩
    obtain ⟨t, a, b, vs, ws, xs, ys, G', rfl, ht, hab, e2, na, nb, ga, gb, ha, hb, va, vb, q2⟩ := ret_two e1.s sm r qs
    exact ⟨t, _, rfl, ht, rfl, _, _, rfl, _, _, rfl, rfl, L.nx _ _ G' H2 (e1.g.trans e2.g) (sees_two (S.ext e1) e2 i j hij hab na nb ga gb ha hb va vb) q2⟩
end
section
variable {K : PySem.W.Frag} {H₀ : Hp} {E : XK}
end
section
variable {K : PySem.W.Frag} {H₀ : Hp} {E : XK} {tb : TE} {db : DE} {dl : DL} {t : TA} {g : TG} {dg : DG} {ns : List Nat}
end
end Dl
namespace Lx
open PySem PySem.Spec PyProof.Rows L2
structure LcOk1 (X : Cx) (scope : Scope) (x : Str) (cl : List (Str × Addr)) (cap : List (Option Nat)) (NC : List Str) : Prop where
  clos : closureFor scope X.env = pure cl
  kind : scope.kind = .function
  one : ∀ n, cellsFrom n scope.names cl = (x, n) :: cl
  push : ∀ h, pushCells h scope.names = h.push { cls := .type "cell", data := .cell none }
  fresh : cl.lookup x = none
  names : ∀ x ∈ scope.names, x.2 = .local → scope.names.lookup x.1 = some .local
  caps : CapsOk X scope cl cap NC
  cells : ∀ p ∈ cl, X.env.cells.lookup p.1 = some p.2
  has : ∀ c : Addr, ((relabel scope X.env).names.all fun p => (p.2 != .cell && p.2 != .free) || (((x, c) :: cl).lookup p.1).isSome) = true
section
variable {X : Cx} {elt target iter : Expr} {ifs : List Expr} {scope : Scope} {pos : Pos} {wi : TI} {cap : List (Option Nat)} {NC : List Str} {cl : List (Str × Addr)} {g : TG} {tt : TT} {te : TE} {x0 : Str}
end
end Lx
namespace Dl
open PySem PySem.Spec PyProof.Rows L2 Lx
section
variable {K : PySem.W.Frag} {H₀ : Hp} {E : XK} {te : TE} {de : DE} {dl : DL} {ta : TA}
end
theorem reads_fr {h : Heap} {y : Value} {n d n' d' : Int} {as bs : List Addr} (r : Reads h y (.tuple [.int n, .int d]) as) (r' : Reads h y (.tuple [.int n', .int d']) bs) : n = n' ∧ d = d' := by
  cases r with
  | tuple h1 c1 e1 a1 =>
    cases r' with
    | tuple h2 c2 e2 a2 =>
      rw [h1] at h2
      cases h2
      rw [e1] at e2
      cases e2
      generalize Array.toList _ = l at a1 a2
      cases a1 with
      | cons x1 t1 =>
        cases a2 with
        | cons y1 u1 =>
          cases t1 with
          | cons x2 t2 =>
            cases u1 with
            | cons y2 u2 =>
              cases x1; cases x2
              cases y1; cases y2
              exact ⟨rfl, rfl⟩
theorem readsAll_at {h : Heap} : ∀ {us : List Value} {ds : List PyData} {as : List Addr} {j : Nat} {u : Value}, ReadsAll h us ds as → us[j]? = some u → ∃ d bs, ds[j]? = some d ∧ Reads h u d bs
  | _, _, _, 0, _, .cons r _, e => by
    simp at e
    subst e
    exact ⟨_, _, rfl, r⟩
  | _, _, _, j + 1, _, .cons _ t, e => by
    obtain ⟨d, bs, h1, h2⟩ := readsAll_at (j := j) t (by simpa using e)
    exact ⟨d, bs, by simpa using h1, h2⟩
theorem readsAll_len {h : Heap} : ∀ {us : List Value} {ds : List PyData} {as : List Addr}, ReadsAll h us ds as → us.length = ds.length
  | _, _, _, .nil => rfl
  | _, _, _, .cons _ t => congrArg (· + 1) (readsAll_len t)
section
variable {X : Cx}
noncomputable def rIndexR (K : PySem.W.Frag) : V → List V → Hp → VK → Prop := fun x vs H Q => ∃ (l : Addr) (y : V) (ws : List V) (q : Rat) (qs : List Rat) (j : Nat), x = .ref l ∧ vs = [y] ∧ SqL K H l ws ∧ DVs K H ws (qs.map eRat.d) ∧ DV K H y (eRat.d q) ∧ qs[j]? = some q ∧ (∀ m, m < j → qs[m]? ≠ some q) ∧ qs.length ≤ 1000 ∧ Q (.int (j : Int)) H
theorem mt_index (hu : X.A.units + 64 < cLine) : MtM X "list.index" (rIndexR X.K) := by
  intro pins s σ H x vs v us Q I rx rv h
  obtain ⟨l, y, ws, q, qs, j, rfl, rfl, hS, hD, hy, hj, hno, hlen, k⟩ := h
  cases rx
  obtain ⟨u, rfl, ru⟩ := rv.one
  obtain ⟨its0, r, ⟨o, n, ho, hc, hdd, hdat⟩, _⟩ := I.list hS
  obtain ⟨cls, dd, data, sl⟩ := o
  simp only at hc hdat
  subst hc hdat
  obtain ⟨as, hR⟩ := dvs_reads I hD r
  obtain ⟨its, hits⟩ : ∃ its : Array Value, its0.toArray = its := ⟨_, rfl⟩
  have htl : its.toList = its0 := by rw [← hits]
  rw [← htl] at hR
  rw [hits] at ho
  obtain ⟨bs, hY⟩ := dv_reads I hy ru
  have hl : its.toList.length = qs.length := by rw [readsAll_len hR, List.length_map]
  have hsz : its.size = qs.length := by rw [← Array.length_toList]; exact hl
  have rd : ∀ m (hm : m < its.size), ∃ p bs, qs[m]? = some p ∧ Reads s.heap its[m] (eRat.d p) bs := fun m hm => by
    obtain ⟨d, bs, h1, h2⟩ := readsAll_at (j := m) hR (by rw [Array.getElem?_toList, Array.getElem?_eq_getElem hm])
    rw [List.getElem?_map] at h1
    cases e : qs[m]? with
    | none => rw [e] at h1; cases h1
    | some p =>
      rw [e] at h1
      cases h1
      exact ⟨p, bs, rfl, h2⟩
  have hjl : j < its.size := by rw [hsz]; exact (List.getElem?_eq_some_iff.mp hj).1
  have key : ∃ e : Value → Bool, ∀ z, e z = true ↔ ∃ bs, Reads s.heap z (eRat.d q) bs := by
    have := Classical.propDecidable
    exact ⟨fun z => @decide (∃ bs, Reads s.heap z (eRat.d q) bs) (Classical.propDecidable _), fun z => by simp⟩
  obtain ⟨e, he⟩ := key
  have ev : ∀ m (hm : m < its.size) p, qs[m]? = some p → (e its[m] = true ↔ p = q) := fun m hm p hp => by
    obtain ⟨p', bs', h1, h2⟩ := rd m hm
    rw [hp] at h1
    cases h1
    rw [he]
    constructor
    · rintro ⟨bs2, h3⟩
      obtain ⟨z1, z2⟩ := reads_fr h2 h3
      exact Rat.ext z1 (by omega)
    · rintro rfl
      exact ⟨_, h2⟩
  refine call_meets PySem.F.slot_list_index ⟨_, ho, rfl⟩ PySem.F.entry_list_index (PySem.F.args_list_index_2 _ _)
    (SeqAt.list_indexAt l its n dd sl u e j hjl (by omega) ((ev j hjl q hj).mpr rfl) (fun m hm hlt => ?_)) ⟨ho, fun z hz => ?_, ⟨.int (j : Int), H, I.tok _, ⟨_, rfl⟩, k⟩⟩
  · obtain ⟨p, bs', h1, h2⟩ := rd m hm
    have := hno m hlt
    rw [h1] at this
    exact Bool.eq_false_iff.mpr fun w => this (by rw [(ev m hm p h1).mp w])
  · obtain ⟨m, hm, rfl⟩ := Array.getElem_of_mem hz
    obtain ⟨p, bs', h1, h2⟩ := rd m hm
    have h3 := SeqAt.eqAt_reads (eRat.d p) (eRat.d q) (X.A.in1) s its[m] u _ _ h2 hY (eRat.lay p) (eRat.lay q) (by
      have := eRat.depth p
      have e1 : (X.A.in1).units = X.A.units + 1 := rfl
      rw [e1]
      have e2 : min (eRat.d p).depth (eRat.d q).depth ≤ (eRat.d p).depth := Nat.min_le_left _ _
      have e3 : eRat.dep = 1 := rfl
      omega)
    have e4 : PyData.eqv (eRat.d p) (eRat.d q) = e its[m] := by
      rw [Bool.eq_iff_iff, eRat.eqv, ev m hm p h1]
    rw [e4] at h3
    exact h3
end
theorem mt_indexK {X : Cx} {K : PySem.W.Frag} (hK : X.K = K) (hu : X.A.units + 64 < cLine) : MtM X "list.index" (rIndexR K) := by subst hK; exact mt_index hu
section
variable {K : PySem.W.Frag} {H₀ : Hp} {E : XK} {te : TE} {de : DE} {dl : DL} {t : TA} {tt : TT} {dt : DT} {ts tz : TS} {ds dz : DS}
noncomputable def dIndexR (i : Nat) (de : DE) (ex : DX) (δ : DEn) (Q : PyData → Prop) : Prop := dLVar i ex δ fun xs => de ex δ fun d => ∃ (q : Rat) (qs : List Rat) (j : Nat), xs = qs.map eRat.d ∧ d = eRat.d q ∧ qs[j]? = some q ∧ (∀ m, m < j → qs[m]? ≠ some q) ∧ qs.length ≤ 1000 ∧ Q (.int (j : Int))
theorem ev_index (i : Nat) (h : BvD K H₀ E te de) : EvD K H₀ E (tBM K "list" (rIndexR K) (tVar i) (tCons te tNil)) (dIndexR i de) := fun ex δ σ G H Qd Q hx S q k =>
  lv_var i ex δ σ G H _ _ hx S q fun a vs xs G1 H1 e1 h1 h2 q1 => ⟨.inl ⟨rfl, _, h1⟩, h ex δ σ G1 H1 _ _ hx (S.ext e1) q1 fun y d G2 H2 e2 hy q2 => by
    obtain ⟨q, qs, j, rfl, rfl, hj, hno, hl, q3⟩ := q2
    exact ⟨a, y, vs, q, qs, j, rfl, rfl, e2.h.seq h1, dvs_same e2.s.same (dvs_same e2.g h2), hy, hj, hno, hl, k _ _ G2 H2 (e1.trans e2) (.int _) q3⟩⟩
noncomputable def dRetC20 (w : DW) (dl : DL) (e : DEnds) (δ : DEn) : Prop := dl e.ex δ fun ds => w ds (fun s => match s with
  | .two xs ys => e.rt (.two xs ys)
  | _ => False) fun _ => False
theorem sv_retC20 {w : DW} (ha : AvD K H₀ E t dl) : SvD K H₀ E (tRet (tCall (spW K w) [] E0 t)) (dRetC20 w dl) := fun δ σ G H e D hx S q L =>
  ha e.ex δ σ G H _ _ hx S q fun vs ds G1 H1 e1 h1 q1 => by
    refine ⟨ds, _, fun _ => False, by rw [List.append_nil]; exact h1, q1, fun v s H2 sm r qs => ?_, fun C H2 sm hc => hc.elim⟩
    have old := (S.ext e1).oldH
    cases s with
    | two xs ys =>
      obtain ⟨t, a, b, vs, ws, rfl, ht, hab, na, nb, ha, hb, va, vb⟩ := r
      exact L.rt _ (.two xs ys) H2 (old.trans sm) ⟨t, a, b, vs, ws, rfl, ht, hab, old.free na, old.free nb, ha, hb, va, vb⟩ qs
    | dat d => exact qs.elim
    | own ds => exact qs.elim
    | exc C => exact qs.elim
    | fz _ _ => exact qs.elim
end
noncomputable abbrev IsZ (h : Heap) (z TI TO : Addr) (f0 f1 : Value) : Prop := h.get? z = some { cls := .type "zip", dict := none, data := .fields #[f0, f1, .bool false, .ref TI, .ref TO], slots := #[] }
section
variable {prog : Program} {w : World} {A : Around} {E : Value → Shared → Prop} {s : Shared}
structure ZSt (h : Heap) (z TI TO i1 i2 l1 l2 base : Addr) (i : Nat) (xs ys : Array Value) : Prop where
  z : IsZ h z TI TO .none (.bool false) ∨ ∃ (T : Addr) (b : Bool) (o : Obj), IsZ h z TI TO (rawInt (T : Int)) (.bool b) ∧ base ≤ T ∧ h.get? T = some o
  ti : IsPair h TI (.ref i1) (.ref i2)
  to : ∃ a b, IsPair h TO a b
  i1 : h.IsListIter i1 l1 i
  i2 : h.IsListIter i2 l2 i
  l1 : h.IsList l1 xs
  l2 : h.IsList l2 ys
end
section
variable {prog : Program} {w : World} {A : Around} {R : Result → Shared → Prop}
end
section
variable {prog : Program} {w : World} {A : Around} {s : Shared} {R : Result → Shared → Prop}
variable {z TI TO i1 i2 l1 l2 S base n : Nat} {xs ys : Array Value}
end
section
variable {prog : Program} {w : World} {A : Around} {E : Value → Shared → Prop} {s : Shared}
end
section
variable {X : Cx} {K : PySem.W.Frag}
end
section
variable {K : PySem.W.Frag} {H₀ : Hp} {E : XK} {ta tb : TE} {dl dk : DL}
end
section
variable {X : Cx} {K : PySem.W.Frag}
end
theorem list_extS (l : Addr) (items : Array Value) (n : Nat) (b : Addr) (items2 : Array Value) (n2 : Nat) (sl2 : Array (Option Value)) (hd : ¬(!items.isEmpty && Builtin.List.listTooLong (items.size + items2.size)) = true) (hz : items.size ≤ sizeLine) (hz2 : items.size + items2.size ≤ sizeLine + 1) :
    Meets (Builtin.«list.extend» ⟨[.ref l, .ref b], []⟩) (fun _ R s => s.heap.get? l = some { cls := .type "list", dict := none, data := .seq items n, slots := #[] } ∧ s.heap.get? b = some { cls := .type "list", dict := none, data := .seq items2 n2, slots := sl2 } ∧
      R (.ok (.ret Value.none)) { s with heap := s.heap.update l (Obj.mapSeq fun x => x ++ items2), toks := s.toks }) :=
  .of_wp fun prog w A R s h => by
    obtain ⟨hp, g, d, tk, os⟩ := s
    obtain ⟨hl, hb, h⟩ := h
    have f1 := AutoSeq1.idx_int
    have f2 := AutoSeq1.sub_tuple_tuple
    have f3 := AutoSeq1.sub_list_list
    have f4 := AutoSeq1.sub_tuple_list
    have f5 := AutoSeq1.sub_list_tuple
    have hzz : (items ++ items2).size ≤ sizeLine + 1 := by rw [Array.size_append]; exact hz2
    wp_walk using (wpAny_updateSeq hl rfl (hz := hz) (_hz' := hzz)), wpAny_loadPart' hl, wpAny_loadPart' hb
    exact ⟨_, rfl, h⟩
section
variable {X : Cx} {K : PySem.W.Frag}
noncomputable def rCatS (K : PySem.W.Frag) : R2 := fun x y H Q => ∃ l b xs zs, x = .ref l ∧ y = .ref b ∧ SqL K H l xs ∧ SqL K H b zs ∧ xs.length + zs.length ≤ sizeLine ∧ ∀ p, H p = none → Q (.ref p) (upd H p (.lst (xs ++ zs)))
theorem op_catS : OpR X (binaryOp .Add) (rCatS X.K) := by
  intro pins s σ H x y v u Q I rx ry h
  obtain ⟨l, b, xs, zs, rfl, rfl, hH, hB, hz, q⟩ := h
  cases rx
  cases ry
  obtain ⟨its, r, ⟨⟨cls, dd, data, sl⟩, n, e, c1, c2, c3⟩, z⟩ := I.list hH
  obtain ⟨its2, r2, ⟨⟨cls2, dd2, data2, sl2⟩, n2, e2, d1, d2, d3⟩, z2⟩ := I.list hB
  simp only at c1 c2 c3 d1 d2 d3
  subst c1 c2 c3 d1 d2 d3
  have hl := r.length
  have hl2 := r2.length
  refine concat_meets ⟨_, e, rfl⟩ ⟨_, e2, rfl⟩ noFill_list_add seq_list_add PySem.F.slot_list_add PySem.F.entry_list_add (PySem.F.args_list_add_2 _ _) (list_addW l b its.toArray its2.toArray n n2 none none sl sl2 (by simp; omega)) ⟨e, e2, ?_⟩
  have ea : its.toArray ++ its2.toArray = (its ++ its2).toArray := by simp
  rw [ea]
  exact ⟨.ref _, _, I.lnew (t' := s.toks) (r.append r2) (by rw [List.length_append]; omega), rfl, q _ I.fresh⟩
theorem catSK (h : X.K = K) : OpR X (binaryOp .Add) (rCatS K) := by subst h; exact op_catS
noncomputable def rExtS (K : PySem.W.Frag) : V → List V → Hp → VK → Prop := fun x vs H Q => ∃ l b xs zs, x = .ref l ∧ vs = [.ref b] ∧ H l = some (.lst xs) ∧ SqL K H b zs ∧ xs.length + zs.length ≤ sizeLine ∧ Q .non (upd H l (.lst (xs ++ zs)))
theorem mt_extS : MtM X "list.extend" (rExtS X.K) := by
  intro pins s σ H x vs v us Q I rx rv h
  obtain ⟨l, b, xs, zs, rfl, rfl, hH, hB, hz, q⟩ := h
  cases rx
  obtain ⟨u, rfl, ru⟩ := rv.one
  cases ru
  obtain ⟨z, its, n, r, hl, e⟩ := I.lstM hH
  obtain ⟨its2, r2, ⟨⟨cls2, dd2, data2, sl2⟩, n2, e2, d1, d2, d3⟩, z2⟩ := I.list hB
  simp only at d1 d2 d3
  subst d1 d2 d3
  have hl2 := r2.length
  have hsz : its.toArray.size + its2.toArray.size ≤ sizeLine := by rw [List.size_toArray, List.size_toArray]; omega
  have hlong : ¬ (!its.toArray.isEmpty && Builtin.List.listTooLong (its.toArray.size + its2.toArray.size)) = true := by
    rw [notLongL hsz, Bool.and_false]
    exact Bool.false_ne_true
  refine call_meets F.slot_list_extend ⟨_, e, rfl⟩ F.entry_list_extend (F.args_list_extend_2 _ _) (list_extS l its.toArray n b its2.toArray n2 sl2 hlong (by rw [List.size_toArray]; omega) (by omega)) ⟨e, e2, ?_⟩
  refine ⟨.non, _, I.lset (its' := its ++ its2) hH e (by simp) (r.append r2) ?_, rfl, q⟩
  rw [List.length_append]
  omega
theorem extSK (h : X.K = K) : MtM X "list.extend" (rExtS K) := by subst h; exact mt_extS
end
section
variable {K : PySem.W.Frag} {H₀ : Hp} {E : XK} {te ta tb : TE} {da de : DE} {dl dk : DL}
theorem bv_ixk (m : Nat) (ha : BvD K H₀ E ta da) : BvD K H₀ E (tOp (rIxT K) ta (tC (.int (m : Int)))) (dIxK m da) := fun ex δ σ G H Qd Q hx S q k =>
  ha ex δ σ G H _ _ hx S q fun x dx G1 H1 e1 h1 q1 => by
    cases dx with
    | tuple ds =>
      dsimp only at q1
      split at q1
      · rename_i d z
        obtain ⟨a, vs, rfl, h2, h3⟩ := dv_tuple h1
        obtain ⟨v, z1, z2⟩ := dvs_atI h3 (atI_nat (nth_at z))
        exact ⟨a, vs, _, v, rfl, rfl, h2, z1, k v _ G1 H1 e1 z2 q1⟩
      · exact q1.elim
    | _ => exact q1.elim
noncomputable def dExt (i : Nat) (de : DE) (e : DEnds) (δ : DEn) : Prop := match slot δ i with
  | some (.own ds) => de e.ex δ fun d => (match d with
    | .list es => flatDs es = true ∧ ds.length + es.length ≤ 1000 ∧ e.nx (put (some (.own (ds ++ es))) i δ)
    | _ => False)
  | _ => False
theorem sv_ext (i : Nat) (h : BvD K H₀ E te de) : SvD K H₀ E (tDrop (tBM K "list" (rExtS K) (tVar i) (tCons te tNil))) (dExt i de) := fun δ σ G H e D hx S q L => by
  unfold dExt at q
  split at q
  · rename_i ds hs
    obtain ⟨a, vs, h1, h2, h3, h4⟩ := S.ownAt hs
    refine ⟨_, h1, .inl ⟨rfl, _, SqL.of h3⟩, h e.ex δ σ G H _ _ hx S q fun v d G' H' x hd qd => ?_⟩
    cases d with
    | list es =>
      obtain ⟨q0, q1, q2⟩ := qd
      obtain ⟨b, ws, rfl, b1, b2⟩ := dv_list hd
      have b3 : DVs K G' ws es := dvs_flat (fun c o hc hn => x.s.other hc hn) b2 q0
      have S' := S.ext x
      exact ⟨a, b, vs, ws, rfl, rfl, x.h _ _ h3, b1, Nat.le_of_lt (small1000 (by rw [h4.len, b2.len]; exact q1)), L.nx _ _ G' _ x.g (S'.updO hs h1 ((dvs_same x.g h4).append b3)) q2⟩
    | _ => exact qd.elim
  · exact q.elim
noncomputable def dPopCat (i j : Nat) (e : DEnds) (δ : DEn) : Prop := match slot δ i, slot δ j with
  | some (.own ds), some (.dat (.list bs)) => ∃ ps es, ds = ps ++ [.list es] ∧ es.length + bs.length ≤ 1000 ∧ e.nx (put (some (.own (es ++ bs))) j (put (some (.own ps)) i δ))
  | _, _ => False
theorem dvs_snoc {G : Hp} {vs : List V} {ds : List PyData} {d : PyData} (h : DVs K G vs (ds ++ [d])) : ∃ us u, vs = us ++ [u] ∧ DVs K G us ds ∧ DV K G u d := by
  have h1 := h.take ds.length
  have h2 := h.drop ds.length
  rw [List.take_left'] at h1
  · rw [List.drop_left'] at h2
    · obtain ⟨u, e, hu⟩ := dvs1 h2
      exact ⟨_, u, by rw [← e, List.take_append_drop], h1, hu⟩
    · rfl
  · rfl
theorem sv_popcat (i j : Nat) (hij : i ≠ j) : SvD K H₀ E (tAsg (tOp (rCatS K) (tBM0 K "list" rPop (tVar i)) (tVar j)) (gName j)) (dPopCat i j) := fun δ σ G H e D hx S q L => by
  unfold dPopCat at q
  split at q
  · rename_i ds bs hs hj
    obtain ⟨ps, es, rfl, q1, q2⟩ := q
    obtain ⟨a, vs, h1, h2, h3, h4⟩ := S.ownAt hs
    obtain ⟨us, u, rfl, u1, u2⟩ := dvs_snoc h4
    obtain ⟨c, ws, rfl, c1, c2⟩ := dv_list u2
    obtain ⟨v, v1, v2⟩ := S.has j _ hj
    obtain ⟨b, zs, rfl, b1, b2⟩ := dv_list v2
    have S1 := S.updO (vs := us) (es := ps) hs h1 u1
    have edl : (us ++ [V.ref c]).dropLast = us := by simp
    refine ⟨_, h1, .inl ⟨rfl, _, SqL.of h3⟩, a, us ++ [.ref c], .ref c, rfl, rfl, h3, by simp, ?_⟩
    rw [edl]
    refine ⟨_, v1, c, b, ws, zs, rfl, rfl, S1.sub.same.seq c1, S1.sub.same.seq b1, Nat.le_of_lt (small1000 (by rw [c2.len, b2.len]; exact q1)), fun p hp => ?_⟩
    obtain ⟨e3, g3⟩ := ext_newL (xs := ws ++ zs) (p := p) S1.sub hp
    exact L.nx _ _ G _ (Same.refl _) (S1.setO e3 j hp g3 upd_same (c2.append b2)) q2
  · exact q.elim
end
section
variable {K : PySem.W.Frag} {H₀ : Hp} {E : XK} {dl : DL} {t : TA} {g : TG} {dg : DG} {ns : List Nat}
end
section
variable {X : Cx} {K : PySem.W.Frag}
end
section
variable {K : PySem.W.Frag} {H₀ : Hp} {E : XK} {te ta tb : TE} {da db : DE} {dl : DL}
end
section
variable {prog : Program} {w : World} {A : Around} {E : Value → Shared → Prop} {s : Shared}
end
section
variable {prog : Program} {w : World} {A : Around} {E : Value → Shared → Prop} {s : Shared}
end
section
variable {X : Cx} {K : PySem.W.Frag}
end
section
variable {K : PySem.W.Frag} {H₀ : Hp} {E : XK} {ta tb : TE} {da db : DE}
end
section
variable {K : PySem.W.Frag} {H₀ : Hp} {E : XK} {te : TE} {de : DE} {dl : DL} {t : TA} {ts tz : TS} {ds : DS} {w : DW}
end
section
variable {K : PySem.W.Frag} {H₀ : Hp} {E : XK} {ta tb : TE} {da db : DE}
noncomputable def dCatE (da db : DE) (ex : DX) (δ : DEn) (Q : List PyData → Prop) : Prop := da ex δ fun x => db ex δ fun y => ∃ xs ys, x = .list xs ∧ y = .list ys ∧ xs.length + ys.length ≤ 1000 ∧ Q (xs ++ ys)
theorem ov_catE (h1 : EvD K H₀ E ta da) (h2 : EvD K H₀ E tb db) : OvD K H₀ E (tOp (rCatS K) ta tb) (dCatE da db) := fun ex δ σ G H Qd Q hx S q k =>
  h1 ex δ σ G H _ _ hx S q fun x d1 G1 H1 e1 x1 q1 => h2 ex δ σ G1 H1 _ _ hx (S.ext e1) q1 fun y d2 G2 H2 e2 y1 q2 => by
    obtain ⟨xs, ys, rfl, rfl, l, q3⟩ := q2
    obtain ⟨a, vs, rfl, s1, v1⟩ := dv_list x1
    obtain ⟨b, ws, rfl, s2, v2⟩ := dv_list y1
    refine ⟨a, b, vs, ws, rfl, rfl, e2.h.seq (e1.s.same.seq s1), e2.s.same.seq s2, Nat.le_of_lt (small1000 (by rw [v1.len, v2.len]; exact l)), fun p hp => ?_⟩
    obtain ⟨e3, g3⟩ := ext_newL (xs := vs ++ ws) e2.s hp
    have e0 := e1.trans e2
    exact k p _ _ _ _ (e0.trans e3) (e0.h.free hp) g3 upd_same (DVs.append (dvs_same e2.g v1) v2) q3
end
end Dl
namespace My
open PySem PySem.Spec PyProof.Rows L2 Lx Dl
noncomputable def top (i : Nat) : Stmt := PySem.Challenge.pw_leastmiss_k57_rise_shown.main.body.getD i (.Pass ⟨0, 0, 0, 0⟩)
noncomputable abbrev s_common_divisor : Stmt := top 6
theorem sc_common_divisor : FnScope ["one", "other", "rest"] ["one", "other"] (defScope s_common_divisor) := ⟨rfl, rfl, rfl, by decide +kernel, rfl, by decide +kernel, by decide +kernel⟩
noncomputable abbrev s_fraction : Stmt := top 7
theorem sc_fraction : FnScope ["top", "bottom", "divisor"] ["top", "bottom"] (defScope s_fraction) := ⟨rfl, rfl, rfl, by decide +kernel, rfl, by decide +kernel, by decide +kernel⟩
noncomputable abbrev s_plus : Stmt := top 8
theorem sc_plus : FnScope ["one", "other", "shared", "rest", "top", "divisor"] ["one", "other"] (defScope s_plus) := ⟨rfl, rfl, rfl, by decide +kernel, rfl, by decide +kernel, by decide +kernel⟩
noncomputable abbrev s_minus : Stmt := top 9
theorem sc_minus : FnScope ["one", "other"] ["one", "other"] (defScope s_minus) := ⟨rfl, rfl, rfl, by decide +kernel, rfl, by decide +kernel, by decide +kernel⟩
noncomputable abbrev s_product : Stmt := top 10
theorem sc_product : FnScope ["one", "other", "left", "right"] ["one", "other"] (defScope s_product) := ⟨rfl, rfl, rfl, by decide +kernel, rfl, by decide +kernel, by decide +kernel⟩
noncomputable abbrev s_quotient : Stmt := top 11
theorem sc_quotient : FnScope ["one", "other"] ["one", "other"] (defScope s_quotient) := ⟨rfl, rfl, rfl, by decide +kernel, rfl, by decide +kernel, by decide +kernel⟩
noncomputable abbrev s_is_less : Stmt := top 12
theorem sc_is_less : FnScope ["one", "other"] ["one", "other"] (defScope s_is_less) := ⟨rfl, rfl, rfl, by decide +kernel, rfl, by decide +kernel, by decide +kernel⟩
noncomputable abbrev s_size_of : Stmt := top 13
theorem sc_size_of : FnScope ["one"] ["one"] (defScope s_size_of) := ⟨rfl, rfl, rfl, by decide +kernel, rfl, by decide +kernel, by decide +kernel⟩
noncomputable abbrev s_total_of : Stmt := top 14
theorem sc_total_of : FnScope ["some", "total", "one"] ["some"] (defScope s_total_of) := ⟨rfl, rfl, rfl, by decide +kernel, rfl, by decide +kernel, by decide +kernel⟩
noncomputable abbrev s_greatest_of : Stmt := top 15
theorem sc_greatest_of : FnScope ["some", "greatest", "one"] ["some"] (defScope s_greatest_of) := ⟨rfl, rfl, rfl, by decide +kernel, rfl, by decide +kernel, by decide +kernel⟩
noncomputable abbrev s_least_of : Stmt := top 16
theorem sc_least_of : FnScope ["some", "least", "one"] ["some"] (defScope s_least_of) := ⟨rfl, rfl, rfl, by decide +kernel, rfl, by decide +kernel, by decide +kernel⟩
noncomputable abbrev s_height_at : Stmt := top 18
theorem sc_height_at : FnScope ["numbers", "x", "height", "number"] ["numbers", "x"] (defScope s_height_at) := ⟨rfl, rfl, rfl, by decide +kernel, rfl, by decide +kernel, by decide +kernel⟩
noncomputable abbrev s_row_of : Stmt := top 19
theorem sc_row_of : FnScope ["numbers", "marks"] ["numbers", "marks"] (defScope s_row_of) := ⟨rfl, rfl, rfl, by decide +kernel, rfl, by decide +kernel, by decide +kernel⟩
noncomputable abbrev s_misses_of : Stmt := top 21
theorem sc_misses_of : FnScope ["marks", "row"] ["marks", "row"] (defScope s_misses_of) := ⟨rfl, rfl, rfl, by decide +kernel, rfl, by decide +kernel, by decide +kernel⟩
noncomputable abbrev s_check_kind : Stmt := top 24
theorem sc_check_kind : FnScope ["kind"] ["kind"] (defScope s_check_kind) := ⟨rfl, rfl, rfl, by decide +kernel, rfl, by decide +kernel, by decide +kernel⟩
noncomputable abbrev s_weighed_misses : Stmt := top 25
theorem sc_weighed_misses : FnScope ["marks", "row"] ["marks", "row"] (defScope s_weighed_misses) := ⟨rfl, rfl, rfl, by decide +kernel, rfl, by decide +kernel, by decide +kernel⟩
noncomputable abbrev s_is_fair : Stmt := top 26
theorem sc_is_fair : FnScope ["kind", "marks", "row", "pulls"] ["kind", "marks", "row", "pulls"] (defScope s_is_fair) := ⟨rfl, rfl, rfl, by decide +kernel, rfl, by decide +kernel, by decide +kernel⟩
noncomputable abbrev s_is_fair_far : Stmt := top 27
theorem sc_is_fair_far : FnScope ["misses", "pulls", "greatest", "miss", "pull"] ["misses", "pulls"] (defScope s_is_fair_far) := ⟨rfl, rfl, rfl, by decide +kernel, rfl, by decide +kernel, by decide +kernel⟩
noncomputable abbrev s_has_sign_of : Stmt := top 28
theorem sc_has_sign_of : FnScope ["miss", "pull"] ["miss", "pull"] (defScope s_has_sign_of) := ⟨rfl, rfl, rfl, by decide +kernel, rfl, by decide +kernel, by decide +kernel⟩
noncomputable abbrev s_is_fair_sum : Stmt := top 29
theorem sc_is_fair_sum : FnScope ["marks", "misses", "pulls", "mark", "miss", "pull"] ["marks", "misses", "pulls"] (defScope s_is_fair_sum) := ⟨rfl, rfl, rfl, by decide +kernel, rfl, by decide +kernel, by decide +kernel⟩
noncomputable abbrev s_least_level : Stmt := top 31
theorem sc_least_level : FnScope ["kind", "marks", "heights", "weights", "weighed"] ["kind", "marks"] (defScope s_least_level) := ⟨rfl, rfl, rfl, by decide +kernel, rfl, by decide +kernel, by decide +kernel⟩
noncomputable abbrev s_middle_of : Stmt := top 32
theorem sc_middle_of : FnScope ["some", "weights", "pairs", "whole", "spot", "reached"] ["some", "weights"] (defScope s_middle_of) := ⟨rfl, rfl, rfl, by decide +kernel, rfl, by decide +kernel, by decide +kernel⟩
noncomputable abbrev s_in_order : Stmt := top 33
theorem sc_in_order : FnScope ["some", "weights", "pairs", "one", "weight", "spot"] ["some", "weights"] (defScope s_in_order) := ⟨rfl, rfl, rfl, by decide +kernel, rfl, by decide +kernel, by decide +kernel⟩
noncomputable abbrev s_level_sum : Stmt := top 34
theorem sc_level_sum : FnScope ["marks", "numbers", "misses"] ["marks"] (defScope s_level_sum) := ⟨rfl, rfl, rfl, by decide +kernel, rfl, by decide +kernel, by decide +kernel⟩
noncomputable abbrev s_early_pulls : Stmt := top 35
theorem sc_early_pulls : FnScope ["marks", "misses", "fixed", "left", "pulls", "mark", "miss", "pull", "raised"] ["marks", "misses"] (defScope s_early_pulls) := ⟨rfl, rfl, rfl, by decide +kernel, rfl, by decide +kernel, by decide +kernel⟩
noncomputable abbrev s_rises : Stmt := top 37
theorem sc_rises : FnScope ["row"] ["row"] (defScope s_rises) := ⟨rfl, rfl, rfl, by decide +kernel, rfl, by decide +kernel, by decide +kernel⟩
noncomputable abbrev s_holds_up : Stmt := top 38
theorem sc_holds_up : FnScope ["row", "pulls", "reached", "spot", "at_end"] ["row", "pulls"] (defScope s_holds_up) := ⟨rfl, rfl, rfl, by decide +kernel, rfl, by decide +kernel, by decide +kernel⟩
noncomputable abbrev s_rise_least : Stmt := top 39
theorem sc_rise_least : FnScope ["kind", "marks", "blocks", "row", "block", "pulls"] ["kind", "marks"] (defScope s_rise_least) := ⟨rfl, rfl, rfl, by decide +kernel, rfl, by decide +kernel, by decide +kernel⟩
noncomputable abbrev s_pooled : Stmt := top 40
theorem sc_pooled : FnScope ["kind", "marks", "blocks", "mark", "block"] ["kind", "marks"] (defScope s_pooled) := ⟨rfl, rfl, rfl, by decide +kernel, rfl, by decide +kernel, by decide +kernel⟩
noncomputable abbrev s_rise_far : Stmt := top 41
theorem sc_rise_far : FnScope ["marks", "heights", "peaks", "drops", "deepest", "half", "row", "pulls", "spot"] ["marks"] (defScope s_rise_far) := ⟨rfl, rfl, rfl, by decide +kernel, rfl, by decide +kernel, by decide +kernel⟩
noncomputable abbrev s_peaks_of : Stmt := top 42
theorem sc_peaks_of : FnScope ["heights", "peaks", "peak", "spot", "height"] ["heights"] (defScope s_peaks_of) := ⟨rfl, rfl, rfl, by decide +kernel, rfl, by decide +kernel, by decide +kernel⟩
noncomputable abbrev s_rise_shown : Stmt := top 43
theorem sc_rise_shown : FnScope ["kind", "marks", "row", "pulls", "fair"] ["kind", "marks", "row", "pulls"] (defScope s_rise_shown) := ⟨rfl, rfl, rfl, by decide +kernel, rfl, by decide +kernel, by decide +kernel⟩
noncomputable abbrev s_law_cell : Stmt := top 45
theorem sc_law_cell : FnScope ["script", "k"] ["script", "k"] (defScope s_law_cell) := ⟨rfl, rfl, rfl, by decide +kernel, rfl, by decide +kernel, by decide +kernel⟩
noncomputable abbrev s_law_low : Stmt := top 46
theorem sc_law_low : FnScope ["top", "bottom", "one", "other"] ["top", "bottom"] (defScope s_law_low) := ⟨rfl, rfl, rfl, by decide +kernel, rfl, by decide +kernel, by decide +kernel⟩
noncomputable abbrev s_law_sum : Stmt := top 47
theorem sc_law_sum : FnScope ["one", "other"] ["one", "other"] (defScope s_law_sum) := ⟨rfl, rfl, rfl, by decide +kernel, rfl, by decide +kernel, by decide +kernel⟩
noncomputable abbrev s_law_less : Stmt := top 48
theorem sc_law_less : FnScope ["one", "other"] ["one", "other"] (defScope s_law_less) := ⟨rfl, rfl, rfl, by decide +kernel, rfl, by decide +kernel, by decide +kernel⟩
noncomputable abbrev s_law_marks : Stmt := top 49
theorem sc_law_marks : FnScope ["script", "many", "tops", "weights", "k", "cell", "bottom"] ["script"] (defScope s_law_marks) := ⟨rfl, rfl, rfl, by decide +kernel, rfl, by decide +kernel, by decide +kernel⟩
noncomputable abbrev s_law_spoilt : Stmt := top 50
theorem sc_law_spoilt : FnScope ["row", "pulls", "cell", "at", "other", "way", "step"] ["row", "pulls", "cell"] (defScope s_law_spoilt) := ⟨rfl, rfl, rfl, by decide +kernel, rfl, by decide +kernel, by decide +kernel⟩
noncomputable abbrev s_law_holds : Stmt := top 51
theorem sc_law_holds : FnScope ["row", "pulls", "come", "k"] ["row", "pulls"] (defScope s_law_holds) := ⟨rfl, rfl, rfl, by decide +kernel, rfl, by decide +kernel, by decide +kernel⟩
noncomputable abbrev s_law_fair : Stmt := top 52
theorem sc_law_fair : FnScope ["kind", "marks", "misses", "pulls", "most", "come", "k", "size", "weight", "top", "bottom"] ["kind", "marks", "misses", "pulls"] (defScope s_law_fair) := ⟨rfl, rfl, rfl, by decide +kernel, rfl, by decide +kernel, by decide +kernel⟩
noncomputable abbrev s_law : Stmt := top 53
theorem sc_law : FnScope ["script", "marks", "mine", "row", "pulls", "k", "some", "misses", "holds", "handed", "kind", "found", "due"] ["script"] (defScope s_law) := ⟨rfl, rfl, rfl, by decide +kernel, rfl, by decide +kernel, by decide +kernel⟩
structure Adr where
  a_common_divisor : Addr
  d_common_divisor : FuncData
  a_fraction : Addr
  d_fraction : FuncData
  a_plus : Addr
  d_plus : FuncData
  a_minus : Addr
  d_minus : FuncData
  a_product : Addr
  d_product : FuncData
  a_quotient : Addr
  d_quotient : FuncData
  a_is_less : Addr
  d_is_less : FuncData
  a_size_of : Addr
  d_size_of : FuncData
  a_total_of : Addr
  d_total_of : FuncData
  a_greatest_of : Addr
  d_greatest_of : FuncData
  a_least_of : Addr
  d_least_of : FuncData
  a_height_at : Addr
  d_height_at : FuncData
  a_row_of : Addr
  d_row_of : FuncData
  a_misses_of : Addr
  d_misses_of : FuncData
  a_check_kind : Addr
  d_check_kind : FuncData
  a_weighed_misses : Addr
  d_weighed_misses : FuncData
  a_is_fair : Addr
  d_is_fair : FuncData
  a_is_fair_far : Addr
  d_is_fair_far : FuncData
  a_has_sign_of : Addr
  d_has_sign_of : FuncData
  a_is_fair_sum : Addr
  d_is_fair_sum : FuncData
  a_least_level : Addr
  d_least_level : FuncData
  a_middle_of : Addr
  d_middle_of : FuncData
  a_in_order : Addr
  d_in_order : FuncData
  a_level_sum : Addr
  d_level_sum : FuncData
  a_early_pulls : Addr
  d_early_pulls : FuncData
  a_rises : Addr
  d_rises : FuncData
  a_holds_up : Addr
  d_holds_up : FuncData
  a_rise_least : Addr
  d_rise_least : FuncData
  a_pooled : Addr
  d_pooled : FuncData
  a_rise_far : Addr
  d_rise_far : FuncData
  a_peaks_of : Addr
  d_peaks_of : FuncData
  a_rise_shown : Addr
  d_rise_shown : FuncData
  a_law_cell : Addr
  d_law_cell : FuncData
  a_law_low : Addr
  d_law_low : FuncData
  a_law_sum : Addr
  d_law_sum : FuncData
  a_law_less : Addr
  d_law_less : FuncData
  a_law_marks : Addr
  d_law_marks : FuncData
  a_law_spoilt : Addr
  d_law_spoilt : FuncData
  a_law_holds : Addr
  d_law_holds : FuncData
  a_law_fair : Addr
  d_law_fair : FuncData
  a_law : Addr
  d_law : FuncData
  x_NoNumber : Addr
  x_NoKind : Addr
  g_KINDS : Addr
  g_NOUGHT : Addr
structure Txt (K : PySem.W.Frag) (mg : Str → Option Value) (A : Adr) : Prop where
  F_common_divisor : Fun K "common_divisor" "common_divisor" s_common_divisor A.a_common_divisor A.d_common_divisor
  m_common_divisor : mg "common_divisor" = some (.ref A.a_common_divisor)
  b_common_divisor : Binds K A.d_common_divisor ["one", "other"] []
  F_fraction : Fun K "fraction" "fraction" s_fraction A.a_fraction A.d_fraction
  m_fraction : mg "fraction" = some (.ref A.a_fraction)
  b_fraction : Binds K A.d_fraction ["top", "bottom"] []
  F_plus : Fun K "plus" "plus" s_plus A.a_plus A.d_plus
  m_plus : mg "plus" = some (.ref A.a_plus)
  b_plus : Binds K A.d_plus ["one", "other"] []
  F_minus : Fun K "minus" "minus" s_minus A.a_minus A.d_minus
  m_minus : mg "minus" = some (.ref A.a_minus)
  b_minus : Binds K A.d_minus ["one", "other"] []
  F_product : Fun K "product" "product" s_product A.a_product A.d_product
  m_product : mg "product" = some (.ref A.a_product)
  b_product : Binds K A.d_product ["one", "other"] []
  F_quotient : Fun K "quotient" "quotient" s_quotient A.a_quotient A.d_quotient
  m_quotient : mg "quotient" = some (.ref A.a_quotient)
  b_quotient : Binds K A.d_quotient ["one", "other"] []
  F_is_less : Fun K "is_less" "is_less" s_is_less A.a_is_less A.d_is_less
  m_is_less : mg "is_less" = some (.ref A.a_is_less)
  b_is_less : Binds K A.d_is_less ["one", "other"] []
  F_size_of : Fun K "size_of" "size_of" s_size_of A.a_size_of A.d_size_of
  m_size_of : mg "size_of" = some (.ref A.a_size_of)
  b_size_of : Binds K A.d_size_of ["one"] []
  F_total_of : Fun K "total_of" "total_of" s_total_of A.a_total_of A.d_total_of
  m_total_of : mg "total_of" = some (.ref A.a_total_of)
  b_total_of : Binds K A.d_total_of ["some"] []
  F_greatest_of : Fun K "greatest_of" "greatest_of" s_greatest_of A.a_greatest_of A.d_greatest_of
  m_greatest_of : mg "greatest_of" = some (.ref A.a_greatest_of)
  b_greatest_of : Binds K A.d_greatest_of ["some"] []
  F_least_of : Fun K "least_of" "least_of" s_least_of A.a_least_of A.d_least_of
  m_least_of : mg "least_of" = some (.ref A.a_least_of)
  b_least_of : Binds K A.d_least_of ["some"] []
  F_height_at : Fun K "height_at" "height_at" s_height_at A.a_height_at A.d_height_at
  m_height_at : mg "height_at" = some (.ref A.a_height_at)
  b_height_at : Binds K A.d_height_at ["numbers", "x"] []
  F_row_of : Fun K "row_of" "row_of" s_row_of A.a_row_of A.d_row_of
  m_row_of : mg "row_of" = some (.ref A.a_row_of)
  b_row_of : Binds K A.d_row_of ["numbers", "marks"] []
  F_misses_of : Fun K "misses_of" "misses_of" s_misses_of A.a_misses_of A.d_misses_of
  m_misses_of : mg "misses_of" = some (.ref A.a_misses_of)
  b_misses_of : Binds K A.d_misses_of ["marks", "row"] []
  F_check_kind : Fun K "check_kind" "check_kind" s_check_kind A.a_check_kind A.d_check_kind
  m_check_kind : mg "check_kind" = some (.ref A.a_check_kind)
  b_check_kind : Binds K A.d_check_kind ["kind"] []
  F_weighed_misses : Fun K "weighed_misses" "weighed_misses" s_weighed_misses A.a_weighed_misses A.d_weighed_misses
  m_weighed_misses : mg "weighed_misses" = some (.ref A.a_weighed_misses)
  b_weighed_misses : Binds K A.d_weighed_misses ["marks", "row"] []
  F_is_fair : Fun K "is_fair" "is_fair" s_is_fair A.a_is_fair A.d_is_fair
  m_is_fair : mg "is_fair" = some (.ref A.a_is_fair)
  b_is_fair : Binds K A.d_is_fair ["kind", "marks", "row", "pulls"] []
  F_is_fair_far : Fun K "is_fair_far" "is_fair_far" s_is_fair_far A.a_is_fair_far A.d_is_fair_far
  m_is_fair_far : mg "is_fair_far" = some (.ref A.a_is_fair_far)
  b_is_fair_far : Binds K A.d_is_fair_far ["misses", "pulls"] []
  F_has_sign_of : Fun K "has_sign_of" "has_sign_of" s_has_sign_of A.a_has_sign_of A.d_has_sign_of
  m_has_sign_of : mg "has_sign_of" = some (.ref A.a_has_sign_of)
  b_has_sign_of : Binds K A.d_has_sign_of ["miss", "pull"] []
  F_is_fair_sum : Fun K "is_fair_sum" "is_fair_sum" s_is_fair_sum A.a_is_fair_sum A.d_is_fair_sum
  m_is_fair_sum : mg "is_fair_sum" = some (.ref A.a_is_fair_sum)
  b_is_fair_sum : Binds K A.d_is_fair_sum ["marks", "misses", "pulls"] []
  F_least_level : Fun K "least_level" "least_level" s_least_level A.a_least_level A.d_least_level
  m_least_level : mg "least_level" = some (.ref A.a_least_level)
  b_least_level : Binds K A.d_least_level ["kind", "marks"] []
  F_middle_of : Fun K "middle_of" "middle_of" s_middle_of A.a_middle_of A.d_middle_of
  m_middle_of : mg "middle_of" = some (.ref A.a_middle_of)
  b_middle_of : Binds K A.d_middle_of ["some", "weights"] []
  F_in_order : Fun K "in_order" "in_order" s_in_order A.a_in_order A.d_in_order
  m_in_order : mg "in_order" = some (.ref A.a_in_order)
  b_in_order : Binds K A.d_in_order ["some", "weights"] []
  F_level_sum : Fun K "level_sum" "level_sum" s_level_sum A.a_level_sum A.d_level_sum
  m_level_sum : mg "level_sum" = some (.ref A.a_level_sum)
  b_level_sum : Binds K A.d_level_sum ["marks"] []
  F_early_pulls : Fun K "early_pulls" "early_pulls" s_early_pulls A.a_early_pulls A.d_early_pulls
  m_early_pulls : mg "early_pulls" = some (.ref A.a_early_pulls)
  b_early_pulls : Binds K A.d_early_pulls ["marks", "misses"] []
  F_rises : Fun K "rises" "rises" s_rises A.a_rises A.d_rises
  m_rises : mg "rises" = some (.ref A.a_rises)
  b_rises : Binds K A.d_rises ["row"] []
  F_holds_up : Fun K "holds_up" "holds_up" s_holds_up A.a_holds_up A.d_holds_up
  m_holds_up : mg "holds_up" = some (.ref A.a_holds_up)
  b_holds_up : Binds K A.d_holds_up ["row", "pulls"] []
  F_rise_least : Fun K "rise_least" "rise_least" s_rise_least A.a_rise_least A.d_rise_least
  m_rise_least : mg "rise_least" = some (.ref A.a_rise_least)
  b_rise_least : Binds K A.d_rise_least ["kind", "marks"] []
  F_pooled : Fun K "pooled" "pooled" s_pooled A.a_pooled A.d_pooled
  m_pooled : mg "pooled" = some (.ref A.a_pooled)
  b_pooled : Binds K A.d_pooled ["kind", "marks"] []
  F_rise_far : Fun K "rise_far" "rise_far" s_rise_far A.a_rise_far A.d_rise_far
  m_rise_far : mg "rise_far" = some (.ref A.a_rise_far)
  b_rise_far : Binds K A.d_rise_far ["marks"] []
  F_peaks_of : Fun K "peaks_of" "peaks_of" s_peaks_of A.a_peaks_of A.d_peaks_of
  m_peaks_of : mg "peaks_of" = some (.ref A.a_peaks_of)
  b_peaks_of : Binds K A.d_peaks_of ["heights"] []
  F_rise_shown : Fun K "rise_shown" "rise_shown" s_rise_shown A.a_rise_shown A.d_rise_shown
  m_rise_shown : mg "rise_shown" = some (.ref A.a_rise_shown)
  b_rise_shown : Binds K A.d_rise_shown ["kind", "marks", "row", "pulls"] []
  F_law_cell : Fun K "_law_cell" "_law_cell" s_law_cell A.a_law_cell A.d_law_cell
  m_law_cell : mg "_law_cell" = some (.ref A.a_law_cell)
  b_law_cell : Binds K A.d_law_cell ["script", "k"] []
  F_law_low : Fun K "_law_low" "_law_low" s_law_low A.a_law_low A.d_law_low
  m_law_low : mg "_law_low" = some (.ref A.a_law_low)
  b_law_low : Binds K A.d_law_low ["top", "bottom"] []
  F_law_sum : Fun K "_law_sum" "_law_sum" s_law_sum A.a_law_sum A.d_law_sum
  m_law_sum : mg "_law_sum" = some (.ref A.a_law_sum)
  b_law_sum : Binds K A.d_law_sum ["one", "other"] []
  F_law_less : Fun K "_law_less" "_law_less" s_law_less A.a_law_less A.d_law_less
  m_law_less : mg "_law_less" = some (.ref A.a_law_less)
  b_law_less : Binds K A.d_law_less ["one", "other"] []
  F_law_marks : Fun K "_law_marks" "_law_marks" s_law_marks A.a_law_marks A.d_law_marks
  m_law_marks : mg "_law_marks" = some (.ref A.a_law_marks)
  b_law_marks : Binds K A.d_law_marks ["script"] []
  F_law_spoilt : Fun K "_law_spoilt" "_law_spoilt" s_law_spoilt A.a_law_spoilt A.d_law_spoilt
  m_law_spoilt : mg "_law_spoilt" = some (.ref A.a_law_spoilt)
  b_law_spoilt : Binds K A.d_law_spoilt ["row", "pulls", "cell"] []
  F_law_holds : Fun K "_law_holds" "_law_holds" s_law_holds A.a_law_holds A.d_law_holds
  m_law_holds : mg "_law_holds" = some (.ref A.a_law_holds)
  b_law_holds : Binds K A.d_law_holds ["row", "pulls"] []
  F_law_fair : Fun K "_law_fair" "_law_fair" s_law_fair A.a_law_fair A.d_law_fair
  m_law_fair : mg "_law_fair" = some (.ref A.a_law_fair)
  b_law_fair : Binds K A.d_law_fair ["kind", "marks", "misses", "pulls"] []
  F_law : Fun K "law" "law" s_law A.a_law A.d_law
  m_law : mg "law" = some (.ref A.a_law)
  b_law : Binds K A.d_law ["script"] []
  x_NoNumber : ExcCl K mg "NoNumber" A.x_NoNumber
  x_NoKind : ExcCl K mg "NoKind" A.x_NoKind
  n_abs : mg "abs" = none
  n_ahead : mg "ahead" = none
  n_all : mg "all" = none
  n_any : mg "any" = none
  n_bool : mg "bool" = none
  n_enumerate : mg "enumerate" = none
  n_height : mg "height" = none
  n_isinstance : mg "isinstance" = none
  n_len : mg "len" = none
  n_list : mg "list" = none
  n_mark : mg "mark" = none
  n_min : mg "min" = none
  n_miss : mg "miss" = none
  n_one : mg "one" = none
  n_pair : mg "pair" = none
  n_peak : mg "peak" = none
  n_pull : mg "pull" = none
  n_range : mg "range" = none
  n_reversed : mg "reversed" = none
  n_str : mg "str" = none
  n_sum : mg "sum" = none
  n_weight : mg "weight" = none
  n_zip : mg "zip" = none
  c_KINDS : mg "KINDS" = some (.ref A.g_KINDS)
  k_KINDS : ∀ H : Hp, DV K H (.ref A.g_KINDS) (.tuple [(.str "far"), (.str "sum"), (.str "square")])
  c_NOUGHT : mg "NOUGHT" = some (.ref A.g_NOUGHT)
  k_NOUGHT : ∀ H : Hp, DV K H (.ref A.g_NOUGHT) (.tuple [(.int 0), (.int 1)])
noncomputable abbrev bt_abs := PyProof.Rows.boot_abs
noncomputable abbrev bt_isinstance := PyProof.Rows.boot_isinstance
noncomputable abbrev bt_bool := PyProof.Rows.boot_bool
noncomputable abbrev bt_list := PyProof.Rows.boot_list
noncomputable abbrev bt_min := PyProof.Rows.boot_min
theorem bt_sum : bootBuiltins "sum" = some (.builtin "sum") := by decide +kernel
local macro_rules | `(tactic| walk_at "d") => `(tactic| (try simp only [startN, slot, put, dVar, dBVar, dLVar, dC, dFz, dAsL, dNil, dCons, dTup, dLst, dOp, oI, oI0, oB0, oEq, oNe, dNeg, dIxK, nth, dMap, dCb, bAbs, bMin, bSum, bLen, dListOf, dNoP, dPart, dSl, dAsB, dAnd, dOr, dNot, dAndV, dOrV, dNotV, dIfE, dCall, dCall0, dCallO0, dCallB0, dNext, dRet, dRetO, dRetV, dDrop, dIfS, gvName, gvNil, gvCons, gvTup, dAsg, dSetO, dAsgN0, noOwn, frzAt, dFrz, dPar, dRaise, dApp, dPutAt, dRng1, dRng2, capD, dYes, dIsi, isD, tyD, dIxL, dZip, dEnum, dRev, dIns, dRep, dFrzE, dPut1, dPut2, dOV, d2, dRet2, dSet20, twoS, dIndexR, dRetC20, dExt, dPopCat, dCatE, dZip3, noOwn_map, bAll, bAny, flatS, ownS, anyS, flatD, flatDs, Bool.and_true, Bool.true_and, Bool.and_self, Bool.not_true, Bool.not_false, true_and, and_true, decide_eq_true_eq, Bool.not_eq_true', decide_eq_false_iff_not, if_true, if_false, ite_true, ite_false, Bool.false_eq_true, Bool.true_eq_false, not_true_eq_false, not_false_eq_true, reduceCtorEq, List.length_cons, List.length_nil, List.length_map]))
local macro_rules | `(tactic| walk_at "s") => `(tactic| (walk_at "d"; refine seq_mk ?_; walk_at "d"))
theorem bt_str : bootBuiltins "str" = some (.type "str") := by decide +kernel
noncomputable abbrev fr (q : Rat) : PyData := .tuple [.int q.num, .int (q.den : Int)]
theorem wee_nat {g : Nat} {b : Int} (h : g ≤ b.natAbs) (hb : Wee b) : Wee (g : Int) := by
  unfold Wee at *
  omega
theorem wee_neg {b : Int} (hb : Wee b) : Wee (-b) := by
  unfold Wee at *
  omega
theorem wee {i : Int} (h : decide (i.natAbs < 2 ^ 8000) = true) : Wee i := (of_decide_eq_true h : i.natAbs < 2 ^ 8000)
theorem weeLe {i : Int} {n : Nat} (h : i.natAbs ≤ n) (hn : decide (n < 2 ^ 8000) = true) : Wee i := Nat.lt_of_le_of_lt h (of_decide_eq_true hn)
theorem cdiv {i j : Int} (h : decide (0 < j ∧ j.natAbs < 2 ^ 8000) = true) : CDivB i j := (of_decide_eq_true h : 0 < j ∧ j.natAbs < 2 ^ 8000)
structure Ok (q : Rat) : Prop where
  n : Wee q.num
  d : Wee (q.den : Int)
theorem wee_natle {g b : Nat} (h : g ≤ b) (hb : Wee (b : Int)) : Wee (g : Int) := by
  unfold Wee at *
  omega
theorem okS {q : Rat} {N : Nat} (h : Fm.Sz N q) (hN : decide (N < 2 ^ 8000) = true) : Ok q := ⟨weeLe h.n hN, weeLe (n := N) (by have := h.d; omega) hN⟩
theorem fr_flat (q : Rat) : flatD (fr q) = true := rfl
theorem frs_flat : ∀ qs : List Rat, flatDs (qs.map fr) = true
  | [] => rfl
  | q :: qs => by
    have := frs_flat qs
    simp only [List.map_cons, flatDs, fr_flat, this, Bool.and_self]
section
variable {P : Program} {w : World} {K : PySem.W.Frag} {mg : Str → Option Value} {base : Heap} {A : Adr}
noncomputable def wGcd : DW := fun ds Q _ => ∃ a b : Int, ds = [.int a, .int b] ∧ 0 ≤ a ∧ 0 ≤ b ∧ Q (.dat (.int ((Int.gcd a b : Nat) : Int)))
theorem ok_common_divisor (T : Txt K mg A) : FnOk P w K mg base (CXE P w) 1 A.a_common_divisor A.d_common_divisor ["one", "other"] (spW K wGcd) := by
  refine okW T.F_common_divisor sc_common_divisor (fun ds Q E h => ?_) (fun cdv Ar outer s H E hr => ?_)
  · obtain ⟨a, b, rfl, _⟩ := h; rfl
  refine ⟨_, (pss_cons (ps_while PassesOwn.leaving (pt_cmpR op_ne (pv 1) pe_int (nomark _)) (pss_cons (ps_set (i := 2) sc_common_divisor.nd rfl (Or.inl rfl) (pe_op op_mod (pv 0) (pv 1)))
      (pss_cons (ps_set (i := 0) sc_common_divisor.nd rfl (Or.inl rfl) (pv 1))
      (pss_one (ps_set (i := 1) sc_common_divisor.nd rfl (Or.inl rfl) (pv 2))))))
      (pss_one (ps_ret (pv 0)))), _, (sv_seq (sv_while (tv_test (bv_ev (ev_op ro_ne (bv_var 1) (bv_ev ev_int)))) (sv_seq (sv_asg (ev_op ro_i (bv_var 0) (bv_var 1)) (gv_name 2))
      (sv_seq (sv_asg (ev_var 1) (gv_name 0))
      (sv_asg (ev_var 2) (gv_name 1)))))
      (sv_retV 0)), ?_⟩
  rintro ds Q X ⟨a, b, rfl, ha, hb, k⟩
  walk_at "s"
  refine ⟨fun m δ => ∃ x y r, δ = [some (.dat (.int x)), some (.dat (.int y)), r] ∧ m = y.toNat ∧ 0 ≤ x ∧ 0 ≤ y ∧ Int.gcd x y = Int.gcd a b, ⟨_, a, b, none, rfl, rfl, ha, hb, rfl⟩, ?_⟩
  rintro m δ ⟨x, y, r, rfl, rfl, hx, hy, hg⟩
  walk_at "d"
  refine ite2 (fun c => ?_) (fun c => ?_)
  · have hy0 : y ≠ 0 := c
    have hp : 0 < y := by omega
    walk_at "s"
    refine ⟨hp, ?_⟩
    walk_at "s"
    walk_at "d"
    refine ⟨_, ?_, y, x % y, _, rfl, rfl, hy, Int.emod_nonneg _ hy0, ?_⟩
    · have := Int.emod_lt_of_pos x hp
      have := Int.emod_nonneg x hy0
      omega
    · rw [Fm.gcd_step x y hp, hg]
  · have hy0 : y = 0 := Decidable.not_not.mp c
    subst hy0
    rw [← hg, Fm.gcd_zero hx] at k
    exact k
noncomputable def wFraction (C : Addr) : DW := fun ds Q X => ∃ t b : Int, ds = [.int t, .int b] ∧ Wee b ∧ (b = 0 → X C) ∧ (b ≠ 0 → Q (.dat (fr (Rat.divInt t b))))
theorem ok_fraction (T : Txt K mg A) : FnOk P w K mg base (CXE P w) 2 A.a_fraction A.d_fraction ["top", "bottom"] (spW K (wFraction A.x_NoNumber)) := by
  have G_common_divisor := ok_common_divisor (P := P) (w := w) (base := base) T
  refine okW T.F_fraction sc_fraction (fun ds Q E h => ?_) (fun cdv Ar outer s H E hr => ?_)
  · obtain ⟨a, b, rfl, _⟩ := h; rfl
  refine ⟨_, (pss_cons (ps_if (pt_cmpR op_eq (pv 1) pe_int (nomark _)) (pss_one (ps_raise T.x_NoNumber hr.hd pass_own rfl (pa_cons pe_str pa_nil))) pss_nil)
      (pss_cons (ps_set (i := 2) sc_fraction.nd rfl (Or.inl rfl) (pe_call G_common_divisor (hr.mono (by decide)) rfl T.m_common_divisor T.F_common_divisor.kp T.b_common_divisor .nil passE0 (pa_cons (pe_callB call_abs rfl T.n_abs bt_abs (pa_cons (pv 0) pa_nil)) (pa_cons (pe_callB call_abs rfl T.n_abs bt_abs (pa_cons (pv 1) pa_nil)) pa_nil))))
      (pss_cons (ps_if (pt_cmpR op_lt (pv 1) pe_int (nomark _)) (pss_one (ps_set (i := 2) sc_fraction.nd rfl (Or.inl rfl) (pe_un un_neg (pv 2)))) pss_nil)
      (pss_one (ps_ret (pe_tup (pa_cons (pe_op op_fdivW (pv 0) (pv 2)) (pa_cons (pe_op op_fdivW (pv 1) (pv 2)) pa_nil)))))))), _, (sv_seq (sv_if (tv_test (bv_ev (ev_op ro_eq (bv_var 1) (bv_ev ev_int)))) (sv_raise (ae_cons ev_str ae_nil) (by decide)) sv_next)
      (sv_seq (sv_asg (ev_call0 (av_cons (bv_ev (ev_cb rb_abs (av_cons (bv_var 0) av_nil))) (av_cons (bv_ev (ev_cb rb_abs (av_cons (bv_var 1) av_nil))) av_nil))) (gv_name 2))
      (sv_cut (sv_if (tv_test (bv_ev (ev_op ro_b0 (bv_var 1) (bv_ev ev_int)))) (sv_asg (ev_neg (bv_var 2)) (gv_name 2)) sv_next)
      (sv_ret (bv_ev (ev_tup (ae_cons (ev_op ro_i (bv_var 0) (bv_var 2)) (ae_cons (ev_op ro_i (bv_var 1) (bv_var 2)) ae_nil)) (by decide))))))), ?_⟩
  rintro ds Q X ⟨t, b, rfl, hw, k0, k1⟩
  walk_at "s"
  refine ite2 (fun c => ?_) (fun c => ?_)
  · exact k0 c
  have hb : b ≠ 0 := c
  have kq := k1 hb
  walk_at "s"
  refine ⟨_, _, rfl, by rw [Fm.abs_if]; omega, by rw [Fm.abs_if]; omega, ?_⟩
  have eg : Int.gcd (if t < 0 then -t else t) (if b < 0 then -b else b) = Int.gcd t b := by
    rw [Fm.abs_if, Fm.abs_if]
    simp [Int.gcd]
  rw [eg]
  walk_at "d"
  refine ?_
  have h1 := Fm.gcd_pos_right (a := t) hb
  have h2 := wee_nat (Fm.gcd_le_right (a := t) hb) hw
  refine cut_mk (fun δ => δ = [some (.dat (.int t)), some (.dat (.int b)), some (.dat (.int (if b < 0 then -((Int.gcd t b : Nat) : Int) else ((Int.gcd t b : Nat) : Int))))]) ?_ ?_
  · walk_at "d"
    refine ite2 (fun c2 => ?_) (fun c2 => ?_)
    · rw [if_pos c2]
    · rw [if_neg c2]
  · rintro δ rfl
    walk_at "d"
    have hg : (if b < 0 then -((Int.gcd t b : Nat) : Int) else ((Int.gcd t b : Nat) : Int)) ≠ 0 := by split <;> omega
    have hg2 : Wee (if b < 0 then -((Int.gcd t b : Nat) : Int) else ((Int.gcd t b : Nat) : Int)) := by
      split
      · exact wee_neg h2
      · exact h2
    refine ⟨⟨hg, hg2⟩, ⟨hg, hg2⟩, ?_⟩
    rw [Fm.fr_num hb, Fm.fr_den hb]
    exact kq
end
noncomputable def wTwo (f : Rat → Rat → Rat) : DW := fun ds Q _ => ∃ a b : Rat, ds = [fr a, fr b] ∧ Ok a ∧ Ok b ∧ Q (.dat (fr (f a b)))
section
variable {P : Program} {w : World} {K : PySem.W.Frag} {mg : Str → Option Value} {base : Heap} {A : Adr}
theorem ok_plus (T : Txt K mg A) : FnOk P w K mg base (CXE P w) 2 A.a_plus A.d_plus ["one", "other"] (spW K (wTwo (· + ·))) := by
  have G_common_divisor := ok_common_divisor (P := P) (w := w) (base := base) T
  refine okW T.F_plus sc_plus (fun ds Q E h => ?_) (fun cdv Ar outer s H E hr => ?_)
  · obtain ⟨a, b, rfl, _⟩ := h; rfl
  refine ⟨_, (pss_cons (ps_set (i := 2) sc_plus.nd rfl (Or.inl rfl) (pe_call G_common_divisor (hr.mono (by decide)) rfl T.m_common_divisor T.F_common_divisor.kp T.b_common_divisor .nil passE0 (pa_cons (pe_ix (ixtK (K := K) rfl) (pv 0) pe_int (fun _ _ => rfl)) (pa_cons (pe_ix (ixtK (K := K) rfl) (pv 1) pe_int (fun _ _ => rfl)) pa_nil))))
      (pss_cons (ps_set (i := 3) sc_plus.nd rfl (Or.inl rfl) (pe_op op_fdivB (pe_ix (ixtK (K := K) rfl) (pv 0) pe_int (fun _ _ => rfl)) (pv 2)))
      (pss_cons (ps_set (i := 4) sc_plus.nd rfl (Or.inl rfl) (pe_op op_add (pe_op op_mulB (pe_ix (ixtK (K := K) rfl) (pv 0) pe_int (fun _ _ => rfl)) (pe_op op_fdivB (pe_ix (ixtK (K := K) rfl) (pv 1) pe_int (fun _ _ => rfl)) (pv 2))) (pe_op op_mulB (pe_ix (ixtK (K := K) rfl) (pv 1) pe_int (fun _ _ => rfl)) (pv 3))))
      (pss_cons (ps_set (i := 5) sc_plus.nd rfl (Or.inl rfl) (pe_call G_common_divisor (hr.mono (by decide)) rfl T.m_common_divisor T.F_common_divisor.kp T.b_common_divisor .nil passE0 (pa_cons (pv 2) (pa_cons (pe_callB call_abs rfl T.n_abs bt_abs (pa_cons (pv 4) pa_nil)) pa_nil))))
      (pss_one (ps_ret (pe_tup (pa_cons (pe_op op_fdivB (pv 4) (pv 5)) (pa_cons (pe_op op_mulB (pv 3) (pe_op op_fdivB (pe_ix (ixtK (K := K) rfl) (pv 1) pe_int (fun _ _ => rfl)) (pv 5))) pa_nil))))))))), _, (sv_seq (sv_asg (ev_call0 (av_cons (bv_ev (ev_ixk 1 (ev_var 0))) (av_cons (bv_ev (ev_ixk 1 (ev_var 1))) av_nil))) (gv_name 2))
      (sv_seq (sv_asg (ev_op ro_i (bv_ev (ev_ixk 1 (ev_var 0))) (bv_var 2)) (gv_name 3))
      (sv_seq (sv_asg (ev_op ro_i0 (bv_ev (ev_op ro_i (bv_ev (ev_ixk 0 (ev_var 0))) (bv_ev (ev_op ro_i (bv_ev (ev_ixk 1 (ev_var 1))) (bv_var 2))))) (bv_ev (ev_op ro_i (bv_ev (ev_ixk 0 (ev_var 1))) (bv_var 3)))) (gv_name 4))
      (sv_seq (sv_asg (ev_call0 (av_cons (bv_var 2) (av_cons (bv_ev (ev_cb rb_abs (av_cons (bv_var 4) av_nil))) av_nil))) (gv_name 5))
      (sv_ret (bv_ev (ev_tup (ae_cons (ev_op ro_i (bv_var 4) (bv_var 5)) (ae_cons (ev_op ro_i (bv_var 3) (bv_ev (ev_op ro_i (bv_ev (ev_ixk 1 (ev_var 1))) (bv_var 5)))) ae_nil)) (by decide)))))))), ?_⟩
  rintro ds Q X ⟨a, b, rfl, oa, ob, k⟩
  have s0 : 0 < a.den.gcd b.den := Nat.gcd_pos_of_pos_left _ (Nat.pos_of_ne_zero a.den_nz)
  have sw : Wee ((a.den.gcd b.den : Nat) : Int) := wee_natle (Nat.le_of_dvd (Nat.pos_of_ne_zero a.den_nz) (Nat.gcd_dvd_left _ _)) oa.d
  walk_at "s"
  refine ⟨_, _, rfl, by omega, by omega, ?_⟩
  rw [Int.gcd_natCast_natCast]
  generalize hs : a.den.gcd b.den = sh at s0 sw ⊢
  walk_at "d"
  refine ?_
  walk_at "s"
  refine ⟨⟨by omega, sw⟩, ?_⟩
  rw [← Int.natCast_ediv]
  walk_at "s"
  refine ⟨⟨by omega, sw⟩, ?_⟩
  rw [← Int.natCast_ediv]
  refine ⟨mulOk oa.n (wee_natle (Nat.div_le_self _ _) ob.d), mulOk ob.n (wee_natle (Nat.div_le_self _ _) oa.d), ?_⟩
  generalize ht : a.num * ((b.den / sh : Nat) : Int) + b.num * ((a.den / sh : Nat) : Int) = tp
  walk_at "s"
  refine ⟨_, _, rfl, by omega, by rw [Fm.abs_if]; omega, ?_⟩
  rw [Fm.abs_if, Int.gcd_natCast_natCast]
  generalize hg : sh.gcd tp.natAbs = g
  have g0 : 0 < g := by rw [← hg]; exact Nat.gcd_pos_of_pos_left _ s0
  have gw : Wee (g : Int) := wee_natle (by rw [← hg]; exact Nat.le_of_dvd s0 (Nat.gcd_dvd_left _ _)) sw
  walk_at "d"
  refine ?_
  obtain ⟨e1, e2⟩ := Fm.add_parts a b sh hs.symm tp ht.symm g hg.symm
  walk_at "d"
  refine ⟨⟨by omega, gw⟩, ⟨by omega, gw⟩, mulOk (wee_natle (Nat.div_le_self _ _) oa.d) (by rw [← Int.natCast_ediv]; exact wee_natle (Nat.div_le_self _ _) ob.d), ?_⟩
  rw [← Int.natCast_ediv, ← Int.natCast_mul, ← e1, ← e2]
  exact k
theorem ok_minus (T : Txt K mg A) : FnOk P w K mg base (CXE P w) 3 A.a_minus A.d_minus ["one", "other"] (spW K (wTwo (· - ·))) := by
  have G_plus := ok_plus (P := P) (w := w) (base := base) T
  refine okW T.F_minus sc_minus (fun ds Q E h => ?_) (fun cdv Ar outer s H E hr => ?_)
  · obtain ⟨a, b, rfl, _⟩ := h; rfl
  refine ⟨_, (pss_one (ps_ret (pe_call G_plus (hr.mono (by decide)) rfl T.m_plus T.F_plus.kp T.b_plus .nil passE0 (pa_cons (pv 0) (pa_cons (pe_tup (pa_cons (pe_un un_neg (pe_ix (ixtK (K := K) rfl) (pv 1) pe_int (fun _ _ => rfl))) (pa_cons (pe_ix (ixtK (K := K) rfl) (pv 1) pe_int (fun _ _ => rfl)) pa_nil))) pa_nil))))), _, (sv_ret (bv_ev (ev_call0 (av_cons (bv_var 0) (av_cons (bv_ev (ev_tup (ae_cons (ev_neg (bv_ev (ev_ixk 0 (ev_var 1)))) (ae_cons (ev_ixk 1 (ev_var 1)) ae_nil)) (by decide))) av_nil))))), ?_⟩
  rintro ds Q X ⟨a, b, rfl, oa, ob, k⟩
  walk_at "d"
  refine ⟨a, -b, rfl, oa, ⟨wee_neg ob.n, ob.d⟩, rfl, ?_⟩
  dsimp only
  rw [← Rat.sub_eq_add_neg]
  exact k
theorem ok_product (T : Txt K mg A) : FnOk P w K mg base (CXE P w) 3 A.a_product A.d_product ["one", "other"] (spW K (wTwo (· * ·))) := by
  have G_fraction := ok_fraction (P := P) (w := w) (base := base) T
  refine okW T.F_product sc_product (fun ds Q E h => ?_) (fun cdv Ar outer s H E hr => ?_)
  · obtain ⟨a, b, rfl, _⟩ := h; rfl
  refine ⟨_, (pss_cons (ps_set (i := 2) sc_product.nd rfl (Or.inl rfl) (pe_call G_fraction (hr.mono (by decide)) rfl T.m_fraction T.F_fraction.kp T.b_fraction .nil passE0 (pa_cons (pe_ix (ixtK (K := K) rfl) (pv 0) pe_int (fun _ _ => rfl)) (pa_cons (pe_ix (ixtK (K := K) rfl) (pv 1) pe_int (fun _ _ => rfl)) pa_nil))))
      (pss_cons (ps_set (i := 3) sc_product.nd rfl (Or.inl rfl) (pe_call G_fraction (hr.mono (by decide)) rfl T.m_fraction T.F_fraction.kp T.b_fraction .nil passE0 (pa_cons (pe_ix (ixtK (K := K) rfl) (pv 1) pe_int (fun _ _ => rfl)) (pa_cons (pe_ix (ixtK (K := K) rfl) (pv 0) pe_int (fun _ _ => rfl)) pa_nil))))
      (pss_one (ps_ret (pe_tup (pa_cons (pe_op op_mulB (pe_ix (ixtK (K := K) rfl) (pv 2) pe_int (fun _ _ => rfl)) (pe_ix (ixtK (K := K) rfl) (pv 3) pe_int (fun _ _ => rfl))) (pa_cons (pe_op op_mulB (pe_ix (ixtK (K := K) rfl) (pv 2) pe_int (fun _ _ => rfl)) (pe_ix (ixtK (K := K) rfl) (pv 3) pe_int (fun _ _ => rfl))) pa_nil))))))), _, (sv_seq (sv_asg (ev_call0 (av_cons (bv_ev (ev_ixk 0 (ev_var 0))) (av_cons (bv_ev (ev_ixk 1 (ev_var 1))) av_nil))) (gv_name 2))
      (sv_seq (sv_asg (ev_call0 (av_cons (bv_ev (ev_ixk 0 (ev_var 1))) (av_cons (bv_ev (ev_ixk 1 (ev_var 0))) av_nil))) (gv_name 3))
      (sv_ret (bv_ev (ev_tup (ae_cons (ev_op ro_i (bv_ev (ev_ixk 0 (ev_var 2))) (bv_ev (ev_ixk 0 (ev_var 3)))) (ae_cons (ev_op ro_i (bv_ev (ev_ixk 1 (ev_var 2))) (bv_ev (ev_ixk 1 (ev_var 3)))) ae_nil)) (by decide)))))), ?_⟩
  rintro ds Q X ⟨a, b, rfl, oa, ob, k⟩
  have z1 : ((b.den : Nat) : Int) ≠ 0 := by have := b.den_nz; omega
  have z2 : ((a.den : Nat) : Int) ≠ 0 := by have := a.den_nz; omega
  obtain ⟨e1, e2⟩ := Fm.mul_parts a b
  walk_at "s"
  refine ⟨_, _, rfl, ob.d, fun z => absurd z z1, fun _ => ?_⟩
  walk_at "s"
  refine ⟨_, _, rfl, oa.d, fun z => absurd z z2, fun _ => ?_⟩
  have n1 := Fm.num_le a.num z1
  have n2 := Fm.den_le a.num z1
  have n3 := Fm.num_le b.num z2
  have n4 := Fm.den_le b.num z2
  have w1 := oa.n; have w2 := oa.d; have w3 := ob.n; have w4 := ob.d
  walk_at "d"
  refine ⟨mulOk (by unfold Wee at *; omega) (by unfold Wee at *; omega), mulOk (by unfold Wee at *; omega) (by unfold Wee at *; omega), ?_⟩
  rw [← Int.natCast_mul, ← e1, ← e2]
  exact k
noncomputable def wLess : DW := fun ds Q _ => ∃ a b : Rat, ds = [fr a, fr b] ∧ Ok a ∧ Ok b ∧ Q (.dat (.bool (decide (a < b))))
theorem ok_is_less (T : Txt K mg A) : FnOk P w K mg base (CXE P w) 1 A.a_is_less A.d_is_less ["one", "other"] (spW K wLess) := by
  refine okW T.F_is_less sc_is_less (fun ds Q E h => ?_) (fun cdv Ar outer s H E hr => ?_)
  · obtain ⟨a, b, rfl, _⟩ := h; rfl
  refine ⟨_, (pss_one (ps_ret (pe_cmpR op_lt (pe_op op_mulB (pe_ix (ixtK (K := K) rfl) (pv 0) pe_int (fun _ _ => rfl)) (pe_ix (ixtK (K := K) rfl) (pv 1) pe_int (fun _ _ => rfl))) (pe_op op_mulB (pe_ix (ixtK (K := K) rfl) (pv 1) pe_int (fun _ _ => rfl)) (pe_ix (ixtK (K := K) rfl) (pv 0) pe_int (fun _ _ => rfl))) (nomark _)))), _, (sv_ret (bv_ev (ev_op ro_b0 (bv_ev (ev_op ro_i (bv_ev (ev_ixk 0 (ev_var 0))) (bv_ev (ev_ixk 1 (ev_var 1))))) (bv_ev (ev_op ro_i (bv_ev (ev_ixk 0 (ev_var 1))) (bv_ev (ev_ixk 1 (ev_var 0)))))))), ?_⟩
  rintro ds Q X ⟨a, b, rfl, oa, ob, k⟩
  walk_at "d"
  refine ⟨mulOk oa.n ob.d, mulOk ob.n oa.d, ?_⟩
  have e : decide (a.num * (b.den : Int) < b.num * (a.den : Int)) = decide (a < b) := by
    rw [decide_eq_decide]; exact Fm.less_iff a b
  rw [e]
  exact k
noncomputable def wQuot (C : Addr) : DW := fun ds Q X => ∃ a b : Rat, ds = [fr a, fr b] ∧ Ok a ∧ Ok b ∧ (b = 0 → X C) ∧ (b ≠ 0 → Q (.dat (fr (a / b))))
theorem ok_quotient (T : Txt K mg A) : FnOk P w K mg base (CXE P w) 4 A.a_quotient A.d_quotient ["one", "other"] (spW K (wQuot A.x_NoNumber)) := by
  have G_fraction := ok_fraction (P := P) (w := w) (base := base) T
  have G_product := ok_product (P := P) (w := w) (base := base) T
  refine okW T.F_quotient sc_quotient (fun ds Q E h => ?_) (fun cdv Ar outer s H E hr => ?_)
  · obtain ⟨a, b, rfl, _⟩ := h; rfl
  refine ⟨_, (pss_cons (ps_if (pt_cmpR op_eq (pe_ix (ixtK (K := K) rfl) (pv 1) pe_int (fun _ _ => rfl)) pe_int (nomark _)) (pss_one (ps_raise T.x_NoNumber hr.hd pass_own rfl (pa_cons pe_str pa_nil))) pss_nil)
      (pss_one (ps_ret (pe_call G_product (hr.mono (by decide)) rfl T.m_product T.F_product.kp T.b_product .nil passE0 (pa_cons (pv 0) (pa_cons (pe_call G_fraction (hr.mono (by decide)) rfl T.m_fraction T.F_fraction.kp T.b_fraction .nil passE0 (pa_cons (pe_ix (ixtK (K := K) rfl) (pv 1) pe_int (fun _ _ => rfl)) (pa_cons (pe_ix (ixtK (K := K) rfl) (pv 1) pe_int (fun _ _ => rfl)) pa_nil))) pa_nil)))))), _, (sv_seq (sv_if (tv_test (bv_ev (ev_op ro_eq (bv_ev (ev_ixk 0 (ev_var 1))) (bv_ev ev_int)))) (sv_raise (ae_cons ev_str ae_nil) (by decide)) sv_next)
      (sv_ret (bv_ev (ev_call0 (av_cons (bv_var 0) (av_cons (bv_ev (ev_call0 (av_cons (bv_ev (ev_ixk 1 (ev_var 1))) (av_cons (bv_ev (ev_ixk 0 (ev_var 1))) av_nil)))) av_nil)))))), ?_⟩
  rintro ds Q X ⟨a, b, rfl, oa, ob, k0, k1⟩
  walk_at "s"
  refine ite2 (fun c => ?_) (fun c => ?_)
  · exact k0 (Rat.num_eq_zero.mp c)
  · have c2 : b.num ≠ 0 := c
    have hb : b ≠ 0 := fun z => c2 (by rw [z]; rfl)
    walk_at "d"
    refine ⟨_, _, rfl, ob.n, fun z => absurd z c2, fun _ => ⟨rfl, a, b⁻¹, ?_, oa, ?_, rfl, ?_⟩⟩
    · rw [Fm.div_inv]
    · rw [← Fm.div_inv]
      have n1 := Fm.num_le (b.den : Int) c2
      have n2 := Fm.den_le (b.den : Int) c2
      have w3 := ob.n; have w4 := ob.d
      exact ⟨by unfold Wee at *; omega, by unfold Wee at *; omega⟩
    · dsimp only
      rw [← Rat.div_def]
      exact k1 hb
end
theorem atI_map {α β : Type} (f : α → β) (xs : List α) (i : Int) : atI (xs.map f) i = (atI xs i).map f := by
  unfold atI
  rw [List.length_map]
  cases ixN xs.length i with
  | none => rfl
  | some j => exact List.getElem?_map
theorem atI_k {α : Type} [Inhabited α] {xs : List α} {k : Int} (h0 : 0 ≤ k) (h1 : k < (xs.length : Int)) : atI xs k = some (xs.getD k.toNat default) := by
  have e : k = ((k.toNat : Nat) : Int) := by omega
  have hl : k.toNat < xs.length := by omega
  conv => lhs; rw [e]
  refine atI_nat ?_
  rw [List.getElem?_eq_getElem hl]
  simp [List.getD, hl]
theorem atI_mk {α β : Type} [Inhabited α] (f : α → β) {xs : List α} {k : Int} (h0 : 0 ≤ k) (h1 : k < (xs.length : Int)) : atI (xs.map f) k = some (f (xs.getD k.toNat default)) := by
  rw [atI_map, atI_k h0 h1]; rfl
theorem getD_mem' {α : Type} [Inhabited α] {xs : List α} {j : Nat} (h : j < xs.length) : xs.getD j default ∈ xs := by
  have e : xs.getD j default = xs[j] := by simp [List.getD, h]
  rw [e]; exact List.getElem_mem h
theorem getD_all {α : Type} [Inhabited α] {xs : List α} {j : Nat} {p : α → Prop} (h : ∀ v ∈ xs, p v) (h0 : p default) : p (xs.getD j default) := by
  by_cases hj : j < xs.length
  · exact h _ (getD_mem' hj)
  · have e : xs.getD j default = default := by simp [List.getD, hj]
    rw [e]; exact h0
section
variable {P : Program} {w : World} {K : PySem.W.Frag} {mg : Str → Option Value} {base : Heap} {A : Adr}
noncomputable def wGreatest (C : Addr) : DW := fun ds Q X => ∃ qs : List Rat, ds = [.list (qs.map fr)] ∧ (∀ q ∈ qs, Ok q) ∧ (qs = [] → X C) ∧ ∀ q ∈ qs, (∀ r ∈ qs, r ≤ q) → Q (.dat (fr q))
theorem ok_greatest_of (T : Txt K mg A) : FnOk P w K mg base (CXE P w) 2 A.a_greatest_of A.d_greatest_of ["some"] (spW K (wGreatest A.x_NoNumber)) := by
  have G_is_less := ok_is_less (P := P) (w := w) (base := base) T
  refine okW T.F_greatest_of sc_greatest_of (fun ds Q E h => ?_) (fun cdv Ar outer s H E hr => ?_)
  · obtain ⟨a, rfl, _⟩ := h; rfl
  refine ⟨_, (pss_cons (ps_if (pt_cmpR op_eq (pe_callB (lenK (K := K) rfl) rfl T.n_len PySem.boot_len (pa_cons (pv 0) pa_nil)) pe_int (nomark _)) (pss_one (ps_raise T.x_NoNumber hr.hd pass_own rfl (pa_cons pe_str pa_nil))) pss_nil)
      (pss_cons (ps_set (i := 1) sc_greatest_of.nd rfl (Or.inl rfl) (pe_ix (ixlK (K := K) rfl) (pv 0) pe_int (fun _ _ => rfl)))
      (pss_cons (ps_for PassesOwn.leaving rfl (pilK (K := K) rfl (pv 0)) (pg_name (i := 2) sc_greatest_of.nd rfl (Or.inl rfl))
        (pss_one (ps_if (pt_val (pe_call G_is_less (hr.mono (by decide)) rfl T.m_is_less T.F_is_less.kp T.b_is_less .nil passE0 (pa_cons (pv 1) (pa_cons (pv 2) pa_nil)))) (pss_one (ps_set (i := 1) sc_greatest_of.nd rfl (Or.inl rfl) (pv 2))) pss_nil)))
      (pss_one (ps_ret (pv 1)))))), _, (sv_seq (sv_if (tv_test (bv_ev (ev_op ro_eq (bv_ev (ev_cb rb_len (av_cons (bv_var 0) av_nil))) (bv_ev ev_int)))) (sv_raise (ae_cons ev_str ae_nil) (by decide)) sv_next)
      (sv_seq (sv_asg (ev_ixl (lv_var 0) (bv_ev ev_int)) (gv_name 1))
      (sv_seq (sv_for (is_list (ev_var 0)) (gv_name 2)
        (sv_if (tv_b (bv_ev (ev_call0 (av_cons (bv_var 1) (av_cons (bv_var 2) av_nil))))) (sv_asg (ev_var 2) (gv_name 1)) sv_next))
      (sv_retV 1)))), ?_⟩
  rintro ds Q X ⟨qs, rfl, ho, k0, k⟩
  walk_at "s"
  rcases qs with _ | ⟨q0, qs⟩
  · rw [if_pos (by simp)]
    exact k0 rfl
  rw [if_neg (by simp; omega)]
  walk_at "s"
  refine ⟨fr q0, atI_nat (j := 0) rfl, seq_mk (for_map fr (q0 :: qs) (fun Q h => h) (fun i δ => ∃ q r, δ = [some (.dat (.list ((q0 :: qs).map fr))), some (.dat (fr q)), r] ∧ q ∈ q0 :: qs ∧ ∀ j r, j < i → (q0 :: qs)[j]? = some r → r ≤ q) ⟨q0, none, rfl, List.mem_cons_self, fun j r hj => absurd hj (Nat.not_lt_zero _)⟩ ?_ ?_)⟩
  · rintro i q1 δ hi ⟨q, r, rfl, hq, hle⟩
    walk_at "d"
    refine ⟨q, q1, rfl, ho q hq, ho q1 (List.mem_of_getElem? hi), ?_⟩
    walk_at "d"
    have up : ∀ z, q ≤ z → q1 ≤ z → ∀ j r, j < i + 1 → (q0 :: qs)[j]? = some r → r ≤ z := fun z h1 h2 j r hj e => by
      by_cases hji : j = i
      · subst hji
        rw [hi] at e
        cases e
        exact h2
      · exact Rat.le_trans (hle j r (by omega) e) h1
    refine ite2 (fun c => ?_) (fun c => ?_)
    · exact ⟨q1, _, rfl, List.mem_of_getElem? hi, up q1 (by grind) Rat.le_refl⟩
    · exact ⟨q, _, rfl, hq, up q Rat.le_refl (Rat.not_lt.mp c)⟩
  · rintro δ ⟨q, r, rfl, hq, hle⟩
    walk_at "d"
    refine k q hq fun r hr' => ?_
    obtain ⟨j, hj⟩ := List.getElem?_of_mem hr'
    exact hle j r (List.getElem?_eq_some_iff.mp hj).1 hj
noncomputable def wLeast (C : Addr) : DW := fun ds Q X => ∃ qs : List Rat, ds = [.list (qs.map fr)] ∧ (∀ q ∈ qs, Ok q) ∧ (qs = [] → X C) ∧ ∀ q ∈ qs, (∀ r ∈ qs, q ≤ r) → Q (.dat (fr q))
theorem ok_least_of (T : Txt K mg A) : FnOk P w K mg base (CXE P w) 2 A.a_least_of A.d_least_of ["some"] (spW K (wLeast A.x_NoNumber)) := by
  have G_is_less := ok_is_less (P := P) (w := w) (base := base) T
  refine okW T.F_least_of sc_least_of (fun ds Q E h => ?_) (fun cdv Ar outer s H E hr => ?_)
  · obtain ⟨a, rfl, _⟩ := h; rfl
  refine ⟨_, (pss_cons (ps_if (pt_cmpR op_eq (pe_callB (lenK (K := K) rfl) rfl T.n_len PySem.boot_len (pa_cons (pv 0) pa_nil)) pe_int (nomark _)) (pss_one (ps_raise T.x_NoNumber hr.hd pass_own rfl (pa_cons pe_str pa_nil))) pss_nil)
      (pss_cons (ps_set (i := 1) sc_least_of.nd rfl (Or.inl rfl) (pe_ix (ixlK (K := K) rfl) (pv 0) pe_int (fun _ _ => rfl)))
      (pss_cons (ps_for PassesOwn.leaving rfl (pilK (K := K) rfl (pv 0)) (pg_name (i := 2) sc_least_of.nd rfl (Or.inl rfl))
        (pss_one (ps_if (pt_val (pe_call G_is_less (hr.mono (by decide)) rfl T.m_is_less T.F_is_less.kp T.b_is_less .nil passE0 (pa_cons (pv 2) (pa_cons (pv 1) pa_nil)))) (pss_one (ps_set (i := 1) sc_least_of.nd rfl (Or.inl rfl) (pv 2))) pss_nil)))
      (pss_one (ps_ret (pv 1)))))), _, (sv_seq (sv_if (tv_test (bv_ev (ev_op ro_eq (bv_ev (ev_cb rb_len (av_cons (bv_var 0) av_nil))) (bv_ev ev_int)))) (sv_raise (ae_cons ev_str ae_nil) (by decide)) sv_next)
      (sv_seq (sv_asg (ev_ixl (lv_var 0) (bv_ev ev_int)) (gv_name 1))
      (sv_seq (sv_for (is_list (ev_var 0)) (gv_name 2)
        (sv_if (tv_b (bv_ev (ev_call0 (av_cons (bv_var 2) (av_cons (bv_var 1) av_nil))))) (sv_asg (ev_var 2) (gv_name 1)) sv_next))
      (sv_retV 1)))), ?_⟩
  rintro ds Q X ⟨qs, rfl, ho, k0, k⟩
  walk_at "s"
  rcases qs with _ | ⟨q0, qs⟩
  · rw [if_pos (by simp)]
    exact k0 rfl
  rw [if_neg (by simp; omega)]
  walk_at "s"
  refine ⟨fr q0, atI_nat (j := 0) rfl, seq_mk (for_map fr (q0 :: qs) (fun Q h => h) (fun i δ => ∃ q r, δ = [some (.dat (.list ((q0 :: qs).map fr))), some (.dat (fr q)), r] ∧ q ∈ q0 :: qs ∧ ∀ j r, j < i → (q0 :: qs)[j]? = some r → q ≤ r) ⟨q0, none, rfl, List.mem_cons_self, fun j r hj => absurd hj (Nat.not_lt_zero _)⟩ ?_ ?_)⟩
  · rintro i q1 δ hi ⟨q, r, rfl, hq, hle⟩
    walk_at "d"
    refine ⟨q1, q, rfl, ho q1 (List.mem_of_getElem? hi), ho q hq, ?_⟩
    walk_at "d"
    have up : ∀ z, z ≤ q → z ≤ q1 → ∀ j r, j < i + 1 → (q0 :: qs)[j]? = some r → z ≤ r := fun z h1 h2 j r hj e => by
      by_cases hji : j = i
      · subst hji
        rw [hi] at e
        cases e
        exact h2
      · exact Rat.le_trans h1 (hle j r (by omega) e)
    refine ite2 (fun c => ?_) (fun c => ?_)
    · exact ⟨q1, _, rfl, List.mem_of_getElem? hi, up q1 (by grind) Rat.le_refl⟩
    · exact ⟨q, _, rfl, hq, up q Rat.le_refl (Rat.not_lt.mp c)⟩
  · rintro δ ⟨q, r, rfl, hq, hle⟩
    walk_at "d"
    refine k q hq fun r hr' => ?_
    obtain ⟨j, hj⟩ := List.getElem?_of_mem hr'
    exact hle j r (List.getElem?_eq_some_iff.mp hj).1 hj
end
noncomputable def tot : List Rat → Rat
  | [] => 0
  | q :: qs => q + tot qs
theorem tot_app : ∀ (a b : List Rat), tot (a ++ b) = tot a + tot b
  | [], b => by simp [tot, Rat.zero_add]
  | q :: a, b => by
    show q + tot (a ++ b) = q + tot a + tot b
    rw [tot_app a b, Rat.add_assoc]
theorem tot_snoc (qs : List Rat) (q : Rat) : tot (qs ++ [q]) = tot qs + q := by
  rw [tot_app]
  simp [tot, Rat.add_zero]
theorem take_snoc {α : Type} {xs : List α} {i : Nat} {x : α} (h : xs[i]? = some x) : xs.take (i + 1) = xs.take i ++ [x] := by
  rw [List.take_add_one, h]; rfl
section
variable {P : Program} {w : World} {K : PySem.W.Frag} {mg : Str → Option Value} {base : Heap} {A : Adr}
noncomputable def wTotal : DW := fun ds Q _ => ∃ qs : List Rat, ds = [.list (qs.map fr)] ∧ (∀ q ∈ qs, Ok q) ∧ (∀ i, Ok (tot (qs.take i))) ∧ Q (.dat (fr (tot qs)))
theorem ok_total_of (T : Txt K mg A) : FnOk P w K mg base (CXE P w) 3 A.a_total_of A.d_total_of ["some"] (spW K wTotal) := by
  have G_plus := ok_plus (P := P) (w := w) (base := base) T
  refine okW T.F_total_of sc_total_of (fun ds Q E h => ?_) (fun cdv Ar outer s H E hr => ?_)
  · obtain ⟨a, rfl, _⟩ := h; rfl
  refine ⟨_, (pss_cons (ps_set (i := 1) sc_total_of.nd rfl (Or.inl rfl) (pe_glob rfl T.c_NOUGHT (show RelV (.ref _) (.ref _) from rfl)))
      (pss_cons (ps_for PassesOwn.leaving rfl (pilK (K := K) rfl (pv 0)) (pg_name (i := 2) sc_total_of.nd rfl (Or.inl rfl))
        (pss_one (ps_set (i := 1) sc_total_of.nd rfl (Or.inl rfl) (pe_call G_plus (hr.mono (by decide)) rfl T.m_plus T.F_plus.kp T.b_plus .nil passE0 (pa_cons (pv 1) (pa_cons (pv 2) pa_nil))))))
      (pss_one (ps_ret (pv 1))))), _, (sv_seq (sv_asg (ev_c T.k_NOUGHT) (gv_name 1))
      (sv_seq (sv_for (is_list (ev_var 0)) (gv_name 2)
        (sv_asg (ev_call0 (av_cons (bv_var 1) (av_cons (bv_var 2) av_nil))) (gv_name 1)))
      (sv_retV 1))), ?_⟩
  rintro ds Q X ⟨qs, rfl, ho, ht, k⟩
  walk_at "s"
  refine ?_
  refine seq_mk (for_map fr qs (fun Q h => h) (fun i δ => ∃ r, δ = [some (.dat (.list (qs.map fr))), some (.dat (fr (tot (qs.take i)))), r]) ⟨none, rfl⟩ ?_ ?_)
  · rintro i q δ hi ⟨r, rfl⟩
    walk_at "d"
    refine ⟨_, q, rfl, ht i, ho q (List.mem_of_getElem? hi), ?_⟩
    walk_at "d"
    exact ⟨_, by rw [take_snoc hi, tot_snoc]⟩
  · rintro δ ⟨r, rfl⟩
    walk_at "d"
    rw [List.take_of_length_le (Nat.le_refl _)]
    exact k
end
theorem flat_single {α β : Type} (f : α → β) : ∀ xs : List α, xs.flatMap (fun x => [f x]) = xs.map f
  | [] => rfl
  | x :: xs => by simp [flat_single f xs]
noncomputable abbrev Mk := Rat × Rat × Int
noncomputable abbrev mk3 (m : Mk) : PyData := .tuple [fr m.1, fr m.2.1, .int m.2.2]
noncomputable def eMark : Enc Mk where
  d := mk3
  dep := 2
  small := by decide
  lay := fun m => by simp [PyData.canLay0, PyData.canLayAll0]
  depth := fun m => by simp [PyData.depth, PyData.depthAll]
  eqv := fun p q => by
    have h1 := eRat.eqv p.1 q.1
    have h2 := eRat.eqv p.2.1 q.2.1
    have e1 : PyData.eqv (fr p.1) (fr q.1) = PyData.eqv (eRat.d p.1) (eRat.d q.1) := rfl
    have e2 : PyData.eqv (fr p.2.1) (fr q.2.1) = PyData.eqv (eRat.d p.2.1) (eRat.d q.2.1) := rfl
    show PyData.eqvAll [fr p.1, fr p.2.1, .int p.2.2] [fr q.1, fr q.2.1, .int q.2.2] = true ↔ p = q
    rw [PyData.eqvAll, PyData.eqvAll, PyData.eqvAll, e1, e2]
    simp only [Bool.and_eq_true, h1, h2, PyData.eqv, PyData.eqvAll, beq_iff_eq, and_true]
    constructor
    · rintro ⟨a, b, c⟩
      exact Prod.ext a (Prod.ext b c)
    · rintro rfl
      exact ⟨rfl, rfl, rfl⟩
theorem mks_flat : ∀ ms : List Mk, flatDs (ms.map mk3) = true
  | [] => rfl
  | m :: ms => by
    have := mks_flat ms
    simp only [List.map_cons, flatDs, flatD, this, Bool.and_self]
noncomputable def Bg (n : Nat) (v : Int) : Prop := v.natAbs < 2 ^ n
theorem Bg.of {n : Nat} {v : Int} (h : Builtin.Int.intBits v ≤ n) : Bg (n + 1) v := by
  unfold Bg
  by_cases h0 : v = 0
  · subst h0; exact Nat.two_pow_pos _
  · unfold Builtin.Int.intBits at h
    rw [if_neg (by simpa using h0)] at h
    exact (Nat.log2_lt (by omega)).mp (by omega)
theorem Bg.add {n : Nat} {a b : Int} (ha : Bg n a) (hb : Bg n b) : Bg (n + 1) (a + b) := by
  unfold Bg at *
  rw [Nat.pow_succ]
  have := Int.natAbs_add_le a b
  omega
theorem Bg.small {n : Nat} {a : Int} (h : a.natAbs < 2 ^ 64) (hn : 64 ≤ n) : Bg n a := Nat.lt_of_lt_of_le h (Nat.pow_le_pow_right (by decide) hn)
open Fm
theorem dgOk {n : Nat} {q : Rat} (h : Dg n q) (l : n ≤ 2400) : Ok q := okS (h.mono l) (by decide +kernel)
theorem tenWee {n : Nat} {i : Int} (h : i.natAbs ≤ 10 ^ n) (l : n ≤ 2400) : Wee i := weeLe (Nat.le_trans h (ten_le l)) (by decide +kernel)
theorem int_div {a : Int} {q : Rat} : Rat.divInt (a * q.num) (q.den : Int) = (a : Rat) * q := by
  refine (Fm.eq_divInt (by have := q.den_nz; omega) ?_).symm
  rw [Rat.intCast_mul, Fm.num_eq q]
  simp only [Rat.intCast_natCast]
  grind
theorem pairD_map {α β : Type} (f : α → PyData) (g : β → PyData) : ∀ (xs : List α) (ys : List β), pairD (xs.map f) (ys.map g) = (xs.zip ys).map fun p => PyData.tuple [f p.1, g p.2]
  | [], _ => by simp [Dl.pairD]
  | x :: xs, [] => by simp [Dl.pairD]
  | x :: xs, y :: ys => by
    have := pairD_map f g xs ys
    simp [Dl.pairD, this]
theorem zip_map {α β γ : Type} (f : α → β → γ) : ∀ (xs : List α) (ys : List β), ((xs.zip ys).map fun p => f p.1 p.2) = List.zipWith f xs ys
  | [], _ => by simp
  | x :: xs, [] => by simp
  | x :: xs, y :: ys => by simp [zip_map f xs ys]
theorem zip_all {α β : Type} {p : α → Prop} {q : β → Prop} : ∀ {xs : List α} {ys : List β}, (∀ x ∈ xs, p x) → (∀ y ∈ ys, q y) → ∀ z ∈ xs.zip ys, p z.1 ∧ q z.2 := fun {xs ys} h1 h2 z hz => by
  have := List.of_mem_zip (a := z.1) (b := z.2) hz
  exact ⟨h1 _ this.1, h2 _ this.2⟩
theorem zipWith_all {α β γ : Type} {f : α → β → γ} {p : α → Prop} {q : β → Prop} {r : γ → Prop} {xs : List α} {ys : List β} (h1 : ∀ x ∈ xs, p x) (h2 : ∀ y ∈ ys, q y) (h : ∀ x y, p x → q y → r (f x y)) : ∀ z ∈ List.zipWith f xs ys, r z := fun z hz => by
  rw [← zip_map] at hz
  obtain ⟨w, hw, rfl⟩ := List.mem_map.mp hz
  have := zip_all h1 h2 w hw
  exact h _ _ this.1 this.2
noncomputable def missR (ms : List Mk) (row : List Rat) : List Rat := List.zipWith (fun (m : Mk) h => m.2.1 - h) ms row
noncomputable def wmissR (ms : List Mk) (row : List Rat) : List Rat := List.zipWith (fun (m : Mk) x => (m.2.2 : Rat) * x) ms (missR ms row)
noncomputable def sqR (ms : List Mk) (row : List Rat) : List Rat := List.zipWith (fun a b => a * b) (wmissR ms row) (missR ms row)
noncomputable def maxR : List Rat → Rat
  | [] => 0
  | x :: xs => if maxR xs < x then x else maxR xs
theorem maxR_nn : ∀ xs : List Rat, 0 ≤ maxR xs
  | [] => Rat.le_refl
  | x :: xs => by
    have := maxR_nn xs
    unfold maxR
    split
    · grind
    · exact this
theorem maxR_le : ∀ {xs : List Rat}, ∀ x ∈ xs, x ≤ maxR xs
  | y :: xs, x, h => by
    have ih := @maxR_le xs
    unfold maxR
    rcases List.mem_cons.mp h with rfl | h
    · split
      · exact Rat.le_refl
      · exact Rat.not_lt.mp ‹_›
    · have := ih x h
      split
      · grind
      · exact this
theorem maxR_mem : ∀ {xs : List Rat}, maxR xs = 0 ∨ maxR xs ∈ xs
  | [] => .inl rfl
  | x :: xs => by
    unfold maxR
    split
    · exact .inr List.mem_cons_self
    · rcases @maxR_mem xs with h | h
      · exact .inl h
      · exact .inr (List.mem_cons_of_mem _ h)
theorem maxR_eq {xs : List Rat} {m : Rat} (h0 : 0 ≤ m) (h1 : m = 0 ∨ m ∈ xs) (h2 : ∀ x ∈ xs, x ≤ m) : m = maxR xs := by
  refine Rat.le_antisymm ?_ ?_
  · rcases h1 with rfl | h1
    · exact maxR_nn xs
    · exact maxR_le m h1
  · rcases @maxR_mem xs with h | h
    · rw [h]; exact h0
    · exact h2 _ h
noncomputable def meas (kd : Str) (ms : List Mk) (row : List Rat) : Rat := if kd = "far" then maxR ((missR ms row).map absR) else if kd = "sum" then tot ((wmissR ms row).map absR) else tot (sqR ms row)
theorem Cm.tot {L B : Nat} : ∀ {qs : List Rat}, (∀ q ∈ qs, Cm L B q) → Cm L (qs.length * B) (tot qs)
  | [], _ => Cm.zero
  | q :: qs, h => by
    have h1 := h q List.mem_cons_self
    have h2 := Cm.tot (qs := qs) fun x hx => h x (List.mem_cons_of_mem _ hx)
    exact (h1.add h2).mono (Nat.dvd_refl _) (by rw [List.length_cons, Nat.add_mul]; omega)
theorem two_ten {B b : Nat} (h : B ≤ 10 ^ b) : B + B ≤ 10 ^ (b + 1) := by rw [Nat.pow_succ]; omega
theorem sixty_ten {n B b : Nat} (hn : n ≤ 60) (h : B ≤ 10 ^ b) : n * B ≤ 10 ^ (b + 2) := by
  have : n * B ≤ 60 * 10 ^ b := Nat.mul_le_mul hn h
  rw [Nat.pow_add]
  omega
structure MSz (L B W l b wd : Nat) (ms : List Mk) (row : List Rat) : Prop where
  len : ms.length ≤ 60
  pos : 0 < L
  pL : L ≤ 10 ^ l
  pB : B ≤ 10 ^ b
  pW : W ≤ 10 ^ wd
  h : ∀ m ∈ ms, Cm L B m.2.1
  r : ∀ q ∈ row, Cm L B q
  w : ∀ m ∈ ms, m.2.2.natAbs ≤ W
  fit : 2 * l + 2 * b + wd + 6 ≤ 2400
section
variable {L B W l b wd : Nat} {ms : List Mk} {row : List Rat}
theorem MSz.miss (z : MSz L B W l b wd ms row) : ∀ x ∈ missR ms row, Cm L (B + B) x := zipWith_all z.h z.r fun _ _ h1 h2 => h1.sub h2
theorem MSz.wmiss (z : MSz L B W l b wd ms row) : ∀ x ∈ wmissR ms row, Cm L (W * (B + B)) x := zipWith_all z.w z.miss fun _ _ h1 h2 => ((Cm.int h1).mul h2).mono (by rw [Nat.one_mul]; exact Nat.dvd_refl _) (Nat.le_refl _)
theorem MSz.sq (z : MSz L B W l b wd ms row) : ∀ x ∈ sqR ms row, Cm (L * L) (W * (B + B) * (B + B)) x := zipWith_all z.wmiss z.miss fun _ _ h1 h2 => h1.mul h2
theorem MSz.missOk (z : MSz L B W l b wd ms row) : ∀ x ∈ missR ms row, Ok x := fun x hx => dgOk ((z.miss x hx).dg z.pos z.pL (two_ten z.pB)) (by have := z.fit; omega)
theorem MSz.hOk (z : MSz L B W l b wd ms row) : ∀ m ∈ ms, Ok m.2.1 := fun m hm => dgOk ((z.h m hm).dg z.pos z.pL z.pB) (by have := z.fit; omega)
theorem MSz.rOk (z : MSz L B W l b wd ms row) : ∀ q ∈ row, Ok q := fun m hm => dgOk ((z.r m hm).dg z.pos z.pL z.pB) (by have := z.fit; omega)
theorem MSz.wOk (z : MSz L B W l b wd ms row) {m : Mk} (hm : m ∈ ms) : Ok (m.2.2 : Rat) := ⟨tenWee (Nat.le_trans (z.w m hm) z.pW) (by have := z.fit; omega), show Wee ((1 : Nat) : Int) from wee (by decide +kernel)⟩
end
section
variable {P : Program} {w : World} {K : PySem.W.Frag} {mg : Str → Option Value} {base : Heap} {A : Adr}
noncomputable def wSize : DW := fun ds Q _ => ∃ q : Rat, ds = [fr q] ∧ Q (.dat (fr (absR q)))
theorem ok_size_of (T : Txt K mg A) : FnOk P w K mg base (CXE P w) 1 A.a_size_of A.d_size_of ["one"] (spW K wSize) := by
  refine okW T.F_size_of sc_size_of (fun ds Q E h => ?_) (fun cdv Ar outer s H E hr => ?_)
  · obtain ⟨_, rfl, _⟩ := h; rfl
  refine ⟨_, (pss_one (ps_ret (pe_tup (pa_cons (pe_callB call_abs rfl T.n_abs bt_abs (pa_cons (pe_ix (ixtK (K := K) rfl) (pv 0) pe_int (fun _ _ => rfl)) pa_nil)) (pa_cons (pe_ix (ixtK (K := K) rfl) (pv 0) pe_int (fun _ _ => rfl)) pa_nil))))), _, (sv_ret (bv_ev (ev_tup (ae_cons (ev_cb rb_abs (av_cons (bv_ev (ev_ixk 0 (ev_var 0))) av_nil)) (ae_cons (ev_ixk 1 (ev_var 0)) ae_nil)) (by decide)))), ?_⟩
  rintro ds Q X ⟨q, rfl, k⟩
  walk_at "d"
  rw [Fm.abs_if]
  exact k
noncomputable def wMisses : DW := fun ds Q _ => ∃ (ms : List Mk) (row : List Rat), ds = [.list (ms.map mk3), .list (row.map fr)] ∧ ms.length ≤ 1000 ∧ (∀ m ∈ ms, Ok m.2.1) ∧ (∀ q ∈ row, Ok q) ∧ Q (.own ((missR ms row).map fr))
theorem ok_misses_of (T : Txt K mg A) : FnOk P w K mg base (CXE P w) 4 A.a_misses_of A.d_misses_of ["marks", "row"] (spW K wMisses) := by
  have G_minus := ok_minus (P := P) (w := w) (base := base) T
  refine okW T.F_misses_of sc_misses_of (fun ds Q E h => ?_) (fun cdv Ar outer s H E hr => ?_)
  · obtain ⟨_, _, rfl, _⟩ := h; rfl
  refine ⟨_, (pss_one (ps_ret (pe_lc (cap := [none, none]) (NC := ["mark", "height"]) rfl ⟨rfl, rfl, by decide +kernel, by decide +kernel, trivial, (fun _ h => nomatch h), rfl⟩ (pi_zip (K := K) rfl rfl T.n_zip (pa_cons (pv 0) (pa_cons (pv 1) pa_nil))) (fun _ _ _ _ => (pgtK (K := K) (n := 2) rfl rfl (pgs_cons (pg_name (i := 0) (show List.Nodup (["mark", "height"] : List Str) by decide) rfl (Or.inl rfl)) (pgs_cons (pg_name (i := 1) (show List.Nodup (["mark", "height"] : List Str) by decide) rfl (Or.inl rfl)) pgs_nil)))) (fun _ _ _ _ => pts_nil) (fun _ _ _ _ => (pe_call G_minus (hr.mono (by decide)) rfl T.m_minus T.F_minus.kp T.b_minus .nil passE0 (pa_cons (pe_ix (ixtK (K := K) rfl) (pv 0) pe_int (fun _ _ => rfl)) (pa_cons (pv 1) pa_nil))))))), _, (sv_retO (ov_lc (ie_zip (lv_var 0) (lv_var 1)) (gv_tup (gs_cons (gv_name 0) (gs_cons (gv_name 1) gs_nil))) tv_yes (ev_call0 (av_cons (bv_ev (ev_ixk 1 (ev_var 0))) (av_cons (bv_var 1) av_nil))) (by decide) (by decide))), ?_⟩
  rintro ds Q X ⟨ms, row, rfl, hl, hm, hr', k⟩
  walk_at "d"
  refine lc_map (fun p : Mk × Rat => PyData.tuple [mk3 p.1, fr p.2]) fr (fun p : Mk × Rat => [p.1.2.1 - p.2]) (ms.zip row) (by rw [List.length_zip]; omega) (fun Q h => by
      walk_at "d"
      rw [pairD_map]; exact h) (fun p hp N acc hN => ?_) ?_
  · have := zip_all hm hr' p hp
    walk_at "d"
    refine ⟨p.1.2.1, p.2, rfl, this.1, this.2, ?_⟩
    walk_at "d"
    exact hN
  · rw [flat_single, zip_map (fun (m : Mk) h => m.2.1 - h)]
    exact k
noncomputable def wWeighed : DW := fun ds Q _ => ∃ (ms : List Mk) (row : List Rat) (L B W l b wd : Nat), ds = [.list (ms.map mk3), .list (row.map fr)] ∧ MSz L B W l b wd ms row ∧ Q (.own ((wmissR ms row).map fr))
theorem ok_weighed_misses (T : Txt K mg A) : FnOk P w K mg base (CXE P w) 5 A.a_weighed_misses A.d_weighed_misses ["marks", "row"] (spW K wWeighed) := by
  have G_product := ok_product (P := P) (w := w) (base := base) T
  have G_misses_of := ok_misses_of (P := P) (w := w) (base := base) T
  refine okW T.F_weighed_misses sc_weighed_misses (fun ds Q E h => ?_) (fun cdv Ar outer s H E hr => ?_)
  · obtain ⟨_, _, _, _, _, _, _, _, rfl, _⟩ := h; rfl
  refine ⟨_, (pss_one (ps_ret (pe_lc (cap := [none, none]) (NC := ["mark", "miss"]) rfl ⟨rfl, rfl, by decide +kernel, by decide +kernel, trivial, (fun _ h => nomatch h), rfl⟩ (pi_zip (K := K) rfl rfl T.n_zip (pa_cons (pv 0) (pa_cons (pe_call G_misses_of (hr.mono (by decide)) rfl T.m_misses_of T.F_misses_of.kp T.b_misses_of .nil passE0 (pa_cons (pv 0) (pa_cons (pv 1) pa_nil))) pa_nil))) (fun _ _ _ _ => (pgtK (K := K) (n := 2) rfl rfl (pgs_cons (pg_name (i := 0) (show List.Nodup (["mark", "miss"] : List Str) by decide) rfl (Or.inl rfl)) (pgs_cons (pg_name (i := 1) (show List.Nodup (["mark", "miss"] : List Str) by decide) rfl (Or.inl rfl)) pgs_nil)))) (fun _ _ _ _ => pts_nil) (fun _ _ _ _ => (pe_call G_product (hr.mono (by decide)) rfl T.m_product T.F_product.kp T.b_product .nil passE0 (pa_cons (pe_tup (pa_cons (pe_ix (ixtK (K := K) rfl) (pv 0) pe_int (fun _ _ => rfl)) (pa_cons pe_int pa_nil))) (pa_cons (pv 1) pa_nil))))))), _, (sv_retO (ov_lc (ie_zip (lv_var 0) (lv_ov (ov_call0 (av_cons (bv_var 0) (av_cons (bv_var 1) av_nil))))) (gv_tup (gs_cons (gv_name 0) (gs_cons (gv_name 1) gs_nil))) tv_yes (ev_call0 (av_cons (bv_ev (ev_tup (ae_cons (ev_ixk 2 (ev_var 0)) (ae_cons ev_int ae_nil)) (by decide))) (av_cons (bv_var 1) av_nil))) (by decide) (by decide))), ?_⟩
  rintro ds Q X ⟨ms, row, L, B, W, l, b, wd, rfl, z, k⟩
  walk_at "d"
  refine lc_map (fun p : Mk × Rat => PyData.tuple [mk3 p.1, fr p.2]) fr (fun p : Mk × Rat => [(p.1.2.2 : Rat) * p.2]) (ms.zip (missR ms row)) (by rw [List.length_zip]; have := z.len; omega) (fun Q h => by
      walk_at "d"
      refine ⟨ms, row, rfl, by have := z.len; omega, z.hOk, z.rOk, ?_⟩
      walk_at "d"
      refine ⟨frs_flat _, ?_⟩
      rw [pairD_map]; exact h) (fun p hp N acc hN => ?_) ?_
  · have := zip_all (p := fun m => m ∈ ms) (fun _ h => h) z.missOk p hp
    walk_at "d"
    refine ⟨(p.1.2.2 : Rat), p.2, rfl, z.wOk this.1, this.2, ?_⟩
    walk_at "d"
    exact hN
  · rw [flat_single, zip_map (fun (m : Mk) x => (m.2.2 : Rat) * x)]
    exact k
noncomputable def kdsL : List Str := ["far", "sum", "square"]
noncomputable def kdsS : List { x : Str // PyData.strOk x = true } := [⟨"far", by decide +kernel⟩, ⟨"sum", by decide +kernel⟩, ⟨"square", by decide +kernel⟩]
theorem kds_mem {kd : Str} (h : PyData.strOk kd = true) : (⟨kd, h⟩ : { x : Str // PyData.strOk x = true }) ∈ kdsS ↔ kd ∈ kdsL := by
  simp [kdsS, kdsL, Subtype.ext_iff]
noncomputable def wCheck (C : Addr) : DW := fun ds Q X => ∃ d : PyData, ds = [d] ∧ (∀ kd : Str, d = .str kd → PyData.strOk kd = true) ∧ ((∃ kd : Str, d = .str kd ∧ kd ∈ kdsL) → Q (.dat .none)) ∧ ((∀ kd : Str, d = .str kd → kd ∉ kdsL) → X C)
theorem ok_check_kind (T : Txt K mg A) : FnOk P w K mg base (CXE P w) 1 A.a_check_kind A.d_check_kind ["kind"] (spW K (wCheck A.x_NoKind)) := by
  refine okW T.F_check_kind sc_check_kind (fun ds Q E h => ?_) (fun cdv Ar outer s H E hr => ?_)
  · obtain ⟨_, rfl, _⟩ := h; rfl
  refine ⟨_, (pss_one (ps_if (PW.pt (pw_or (pt_not (pt_val (pe_callB (isiDK (K := K) rfl) rfl T.n_isinstance bt_isinstance (pa_cons (pv 0) (pa_cons (pe_bltn rfl T.n_str bt_str (show RelV (.ty "str") (.type "str") from rfl)) pa_nil))))) (pw_or1 (pt_cmpR (notInTK (K := K) rfl hr.units) (pv 0) (pe_glob rfl T.c_KINDS (show RelV (.ref _) (.ref _) from rfl)) rfl)))) (pss_one (ps_raise T.x_NoKind hr.hd pass_own rfl (pa_cons pe_str pa_nil))) pss_nil)), _, (sv_if (tv_or (tv_not (tv_b (bv_ev (ev_isi (by decide) (bv_var 0))))) (tv_test (bv_ev (ev_op ro_notInT (bv_var 0) (bv_ev (ev_c T.k_KINDS)))))) (sv_raise (ae_cons ev_str ae_nil) (by decide)) sv_next), ?_⟩
  rintro ds Q X ⟨d, rfl, ok, k1, k2⟩
  have no : (∀ kd : Str, d ≠ .str kd) → X A.x_NoKind := fun h => k2 fun kd e => absurd e (h kd)
  cases d with
  | str kd =>
    walk_at "d"
    refine ⟨_, eStr, ⟨kd, ok kd rfl⟩, kdsS, rfl, rfl, fun b hb => ?_⟩
    rw [kds_mem] at hb
    cases b with
    | true =>
      walk_at "d"
      exact k1 ⟨kd, rfl, hb.mp rfl⟩
    | false =>
      walk_at "d"
      refine k2 fun kd' e h => ?_
      cases e
      exact absurd (hb.mpr h) (by decide)
  | _ => exact no fun _ => by simp
end
theorem triD_map {α β γ : Type} (f : α → PyData) (g : β → PyData) (h : γ → PyData) : ∀ (xs : List α) (ys : List β) (zs : List γ), triD (xs.map f) (ys.map g) (zs.map h) = (xs.zip (ys.zip zs)).map fun p => PyData.tuple [f p.1, g p.2.1, h p.2.2]
  | [], _, _ => by simp [Dl.triD]
  | x :: xs, [], _ => by simp [Dl.triD]
  | x :: xs, y :: ys, [] => by simp [Dl.triD]
  | x :: xs, y :: ys, z :: zs => by
    have := triD_map f g h xs ys zs
    simp [Dl.triD, this]
theorem num_pos_iff (q : Rat) : 0 < q.num ↔ 0 < q := by
  have h1 := @Rat.num_nonneg (-q)
  have h2 : (-q).num = -q.num := rfl
  rw [h2] at h1
  have h3 : (0 ≤ -q) ↔ ¬ 0 < q := by rw [Rat.not_lt]; constructor <;> intro <;> grind
  rw [h3] at h1
  constructor
  · intro h; exact Decidable.not_not.mp fun z => by have := h1.mpr z; omega
  · intro h; exact Int.not_le.mp fun z => absurd h (h1.mp (by omega))
theorem num_neg_iff (q : Rat) : q.num < 0 ↔ q < 0 := by
  have := @Rat.num_nonneg q
  rw [← Rat.not_le, ← this]; omega
theorem cast_pos {n : Nat} (h : 0 < n) : (0 : Rat) < (n : Rat) := by
  rw [← Rat.intCast_natCast]; exact Rat.intCast_pos.mpr (by omega)
theorem num_mul_pos (x p : Rat) : 0 < x.num * p.num ↔ 0 < x * p := by
  have d1 := cast_pos (Nat.pos_of_ne_zero x.den_nz)
  have d2 := cast_pos (Nat.pos_of_ne_zero p.den_nz)
  have d := Rat.mul_pos d1 d2
  have e : ((x.num * p.num : Int) : Rat) = x * p * ((x.den : Rat) * (p.den : Rat)) := by
    rw [Rat.intCast_mul, Fm.num_eq x, Fm.num_eq p]; grind
  rw [← Rat.intCast_pos, e]
  constructor
  · intro h
    refine Rat.not_le.mp fun z => ?_
    have := Rat.mul_nonneg (show 0 ≤ -(x * p) by grind) (show 0 ≤ (x.den : Rat) * (p.den : Rat) by grind)
    grind
  · intro h
    exact Rat.mul_pos h d
noncomputable def FarAt (M : Rat) (z : Rat × Rat) : Prop := z.2 ≠ 0 → absR z.1 = M ∧ 0 < z.1 * z.2
noncomputable def FairFar (xs ps : List Rat) : Prop := ((∀ p ∈ ps, p = 0) ∧ ∀ x ∈ xs, x = 0) ∨ (¬ (∀ p ∈ ps, p = 0) ∧ (∀ z ∈ xs.zip ps, FarAt (maxR (xs.map absR)) z) ∧ tot (ps.map absR) = 1)
noncomputable def SumAt (w x p : Rat) : Prop := absR p ≤ w ∧ (0 < x → p = w) ∧ (x < 0 → p = -w)
noncomputable def FairSum (ms : List Mk) (xs ps : List Rat) : Prop := ∀ z ∈ ms.zip (xs.zip ps), SumAt (z.1.2.2 : Rat) z.2.1 z.2.2
noncomputable def Fair (kd : Str) (ms : List Mk) (row ps : List Rat) : Prop := if kd = "far" then FairFar (missR ms row) ps else if kd = "sum" then FairSum ms (missR ms row) ps else ps = wmissR ms row
structure PSz (L B l b : Nat) (ps : List Rat) : Prop where
  len : ps.length ≤ 60
  pos : 0 < L
  pL : L ≤ 10 ^ l
  pB : B ≤ 10 ^ b
  h : ∀ p ∈ ps, Cm L B p
  fit : l + b + 4 ≤ 2400
section
variable {L B l b : Nat} {ps : List Rat}
theorem PSz.ok (z : PSz L B l b ps) : ∀ p ∈ ps, Ok p := fun p hp => dgOk ((z.h p hp).dg z.pos z.pL z.pB) (by have := z.fit; omega)
theorem PSz.absOk (z : PSz L B l b ps) : ∀ p ∈ ps.map absR, Ok p := fun p hp => by
  obtain ⟨x, hx, rfl⟩ := List.mem_map.mp hp
  exact dgOk ((z.h x hx).abs.dg z.pos z.pL z.pB) (by have := z.fit; omega)
theorem PSz.totOk (z : PSz L B l b ps) (i : Nat) : Ok (tot ((ps.map absR).take i)) := by
  have h := Cm.tot (qs := (ps.map absR).take i) (L := L) (B := B) fun q hq => by
    obtain ⟨x, hx, rfl⟩ := List.mem_map.mp (List.mem_of_mem_take hq)
    exact (z.h x hx).abs
  exact dgOk (h.dg z.pos z.pL (sixty_ten (by rw [List.length_take, List.length_map]; have := z.len; omega) z.pB)) (by have := z.fit; omega)
end
theorem all_dec {p : Rat → Bool} {xs : List Rat} : ((xs.map p).all id = true) ↔ ∀ x ∈ xs, p x = true := by simp
theorem bool_dec {b : Bool} {p : Prop} [Decidable p] (h : b = true ↔ p) : b = decide p := by
  rw [Bool.eq_iff_iff, h, decide_eq_true_iff]
section
variable {P : Program} {w : World} {K : PySem.W.Frag} {mg : Str → Option Value} {base : Heap} {A : Adr}
noncomputable def wSign : DW := fun ds Q _ => ∃ x p : Rat, ds = [fr x, fr p] ∧ Ok x ∧ Ok p ∧ Q (.dat (.bool (decide (0 < x * p))))
theorem ok_has_sign_of (T : Txt K mg A) : FnOk P w K mg base (CXE P w) 1 A.a_has_sign_of A.d_has_sign_of ["miss", "pull"] (spW K wSign) := by
  refine okW T.F_has_sign_of sc_has_sign_of (fun ds Q E h => ?_) (fun cdv Ar outer s H E hr => ?_)
  · obtain ⟨_, _, rfl, _⟩ := h; rfl
  refine ⟨_, (pss_one (ps_ret (pe_cmpR op_gt (pe_op op_mulB (pe_ix (ixtK (K := K) rfl) (pv 0) pe_int (fun _ _ => rfl)) (pe_ix (ixtK (K := K) rfl) (pv 1) pe_int (fun _ _ => rfl))) pe_int (nomark _)))), _, (sv_ret (bv_ev (ev_op ro_b0 (bv_ev (ev_op ro_i (bv_ev (ev_ixk 0 (ev_var 0))) (bv_ev (ev_ixk 0 (ev_var 1))))) (bv_ev ev_int)))), ?_⟩
  rintro ds Q X ⟨x, p, rfl, ox, op, k⟩
  walk_at "d"
  refine ⟨mulOk ox.n op.n, ?_⟩
  have e : decide (0 < x.num * p.num) = decide (0 < x * p) := by rw [decide_eq_decide]; exact num_mul_pos x p
  rw [e]
  exact k
noncomputable def wFairFar : DW := fun ds Q _ => ∃ (xs ps : List Rat) (L B l b : Nat), ds = [.list (xs.map fr), .list (ps.map fr)] ∧ PSz L B l b ps ∧ xs.length = ps.length ∧ xs ≠ [] ∧ (∀ x ∈ xs, Ok x) ∧ ∀ b : Bool, (b = true ↔ FairFar xs ps) → Q (.dat (.bool b))
theorem ok_is_fair_far (T : Txt K mg A) : FnOk P w K mg base (CXE P w) 4 A.a_is_fair_far A.d_is_fair_far ["misses", "pulls"] (spW K wFairFar) := by
  have G_has_sign_of := ok_has_sign_of (P := P) (w := w) (base := base) T
  have G_size_of := ok_size_of (P := P) (w := w) (base := base) T
  have G_greatest_of := ok_greatest_of (P := P) (w := w) (base := base) T
  have G_total_of := ok_total_of (P := P) (w := w) (base := base) T
  refine okW T.F_is_fair_far sc_is_fair_far (fun ds Q E h => ?_) (fun cdv Ar outer s H E hr => ?_)
  · obtain ⟨_, _, _, _, _, _, rfl, _⟩ := h; rfl
  refine ⟨_, (pss_cons (ps_if (pt_val (pe_callB (allK (K := K) rfl rfl) rfl T.n_all Dl.boot_all (pa_cons (pe_lc (cap := [none]) (NC := ["pull"]) rfl ⟨rfl, rfl, by decide +kernel, by decide +kernel, trivial, (fun _ h => nomatch h), rfl⟩ (pilK (K := K) rfl (pv 1)) (fun _ _ _ _ => (pg_name (i := 0) (show List.Nodup (["pull"] : List Str) by decide) rfl (Or.inl rfl))) (fun _ _ _ _ => pts_nil) (fun _ _ _ _ => (pe_cmpR (eqK (K := K) rfl hr.units) (pv 0) (pe_glob rfl T.c_NOUGHT (show RelV (.ref _) (.ref _) from rfl)) (nomark _)))) pa_nil))) (pss_one (ps_ret (pe_callB (allK (K := K) rfl rfl) rfl T.n_all Dl.boot_all (pa_cons (pe_lc (cap := [none]) (NC := ["miss"]) rfl ⟨rfl, rfl, by decide +kernel, by decide +kernel, trivial, (fun _ h => nomatch h), rfl⟩ (pilK (K := K) rfl (pv 0)) (fun _ _ _ _ => (pg_name (i := 0) (show List.Nodup (["miss"] : List Str) by decide) rfl (Or.inl rfl))) (fun _ _ _ _ => pts_nil) (fun _ _ _ _ => (pe_cmpR (eqK (K := K) rfl hr.units) (pv 0) (pe_glob rfl T.c_NOUGHT (show RelV (.ref _) (.ref _) from rfl)) (nomark _)))) pa_nil)))) pss_nil)
      (pss_cons (ps_set (i := 2) sc_is_fair_far.nd rfl (Or.inl rfl) (pe_call G_greatest_of (hr.mono (by decide)) rfl T.m_greatest_of T.F_greatest_of.kp T.b_greatest_of .nil passE0 (pa_cons (pe_lc (cap := [none]) (NC := ["miss"]) rfl ⟨rfl, rfl, by decide +kernel, by decide +kernel, trivial, (fun _ h => nomatch h), rfl⟩ (pilK (K := K) rfl (pv 0)) (fun _ _ _ _ => (pg_name (i := 0) (show List.Nodup (["miss"] : List Str) by decide) rfl (Or.inl rfl))) (fun _ _ _ _ => pts_nil) (fun _ _ _ _ => (pe_call G_size_of (hr.mono (by decide)) rfl T.m_size_of T.F_size_of.kp T.b_size_of .nil passE0 (pa_cons (pv 0) pa_nil)))) pa_nil)))
      (pss_cons (ps_for PassesOwn.leaving rfl (pi_zip (K := K) rfl rfl T.n_zip (pa_cons (pv 0) (pa_cons (pv 1) pa_nil))) (pgtK (K := K) (n := 2) rfl rfl (pgs_cons (pg_name (i := 3) sc_is_fair_far.nd rfl (Or.inl rfl)) (pgs_cons (pg_name (i := 4) sc_is_fair_far.nd rfl (Or.inl rfl)) pgs_nil)))
        (pss_one (ps_if (PW.pt (pw_and (pt_cmpR (neK (K := K) rfl hr.units) (pv 4) (pe_glob rfl T.c_NOUGHT (show RelV (.ref _) (.ref _) from rfl)) (nomark _)) (pw_and1 (pt_not (PW.pt (pw_and (pt_cmpR (eqK (K := K) rfl hr.units) (pe_call G_size_of (hr.mono (by decide)) rfl T.m_size_of T.F_size_of.kp T.b_size_of .nil passE0 (pa_cons (pv 3) pa_nil)) (pv 2) (nomark _)) (pw_and1 (pt_val (pe_call G_has_sign_of (hr.mono (by decide)) rfl T.m_has_sign_of T.F_has_sign_of.kp T.b_has_sign_of .nil passE0 (pa_cons (pv 3) (pa_cons (pv 4) pa_nil))))))))))) (pss_one (ps_ret pe_bl)) pss_nil)))
      (pss_one (ps_ret (pe_cmpR (eqK (K := K) rfl hr.units) (pe_call G_total_of (hr.mono (by decide)) rfl T.m_total_of T.F_total_of.kp T.b_total_of .nil passE0 (pa_cons (pe_lc (cap := [none]) (NC := ["pull"]) rfl ⟨rfl, rfl, by decide +kernel, by decide +kernel, trivial, (fun _ h => nomatch h), rfl⟩ (pilK (K := K) rfl (pv 1)) (fun _ _ _ _ => (pg_name (i := 0) (show List.Nodup (["pull"] : List Str) by decide) rfl (Or.inl rfl))) (fun _ _ _ _ => pts_nil) (fun _ _ _ _ => (pe_call G_size_of (hr.mono (by decide)) rfl T.m_size_of T.F_size_of.kp T.b_size_of .nil passE0 (pa_cons (pv 0) pa_nil)))) pa_nil)) (pe_tup (pa_cons pe_int (pa_cons pe_int pa_nil))) (nomark _))))))), _, (sv_seq (sv_if (tv_b (bv_ev (ev_cb rb_all (av_cons (bv_ev (ev_ov (ov_lc (ie_list (lv_var 1)) (gv_name 0) tv_yes (ev_op ro_eqD (bv_var 0) (bv_ev (ev_c T.k_NOUGHT))) (by decide) (by decide)))) av_nil)))) (sv_ret (bv_ev (ev_cb rb_all (av_cons (bv_ev (ev_ov (ov_lc (ie_list (lv_var 0)) (gv_name 0) tv_yes (ev_op ro_eqD (bv_var 0) (bv_ev (ev_c T.k_NOUGHT))) (by decide) (by decide)))) av_nil)))) sv_next)
      (sv_seq (sv_asg (ev_call0 (av_cons (bv_ev (ev_ov (ov_lc (ie_list (lv_var 0)) (gv_name 0) tv_yes (ev_call0 (av_cons (bv_var 0) av_nil)) (by decide) (by decide)))) av_nil)) (gv_name 2))
      (sv_seq (sv_for (is_zip (ev_var 0) (ev_var 1)) (gv_tup (gs_cons (gv_name 3) (gs_cons (gv_name 4) gs_nil)))
        (sv_if (tv_and (tv_test (bv_ev (ev_op ro_neD (bv_var 4) (bv_ev (ev_c T.k_NOUGHT))))) (tv_not (tv_and (tv_test (bv_ev (ev_op ro_eqD (bv_ev (ev_call0 (av_cons (bv_var 3) av_nil))) (bv_var 2)))) (tv_b (bv_ev (ev_call0 (av_cons (bv_var 3) (av_cons (bv_var 4) av_nil)))))))) (sv_ret (bv_ev ev_bl)) sv_next))
      (sv_ret (bv_ev (ev_op ro_eqD (bv_ev (ev_call0 (av_cons (bv_ev (ev_ov (ov_lc (ie_list (lv_var 1)) (gv_name 0) tv_yes (ev_call0 (av_cons (bv_var 0) av_nil)) (by decide) (by decide)))) av_nil))) (bv_ev (ev_tup (ae_cons ev_int (ae_cons ev_int ae_nil)) (by decide))))))))), ?_⟩
  rintro ds Q X ⟨xs, ps, L, B, l, b, rfl, z, hlen, hne, hx, k⟩
  have zl := z.len
  have nought : ∀ (q : Rat) (R : PyData → Prop), R (.bool (decide (q = 0))) → oEqD (fr q) (.tuple [.int 0, .int 1]) R := fun q R hR =>
    ⟨Rat, eRat, q, 0, rfl, rfl, fun b hb => by rw [bool_dec hb]; exact hR⟩
  walk_at "s"
  refine lc_map fr PyData.bool (fun p : Rat => [decide (p = 0)]) ps (by omega) (fun Q h => h) (fun p hp N acc hN => ?_) ?_
  · walk_at "d"
    exact nought p _ hN
  rw [flat_single]
  walk_at "d"
  refine ⟨_, rfl, ?_⟩
  have ea : ((ps.map fun p => decide (p = 0)).all id = true) ↔ ∀ p ∈ ps, p = 0 := by
    rw [all_dec]; simp
  walk_at "d"
  refine ite2 (fun c => ?_) (fun c => ?_)
  · have c0 := ea.mp c
    walk_at "d"
    refine lc_map fr PyData.bool (fun p : Rat => [decide (p = 0)]) xs (by omega) (fun Q h => h) (fun p hp N acc hN => ?_) ?_
    · walk_at "d"
      exact nought p _ hN
    rw [flat_single]
    walk_at "d"
    refine ⟨_, rfl, ?_⟩
    walk_at "d"
    refine k _ ?_
    rw [all_dec]
    constructor
    · intro h
      exact .inl ⟨c0, fun x hx => of_decide_eq_true (h x hx)⟩
    · rintro (⟨_, h⟩ | ⟨h, _⟩)
      · exact fun x hx => decide_eq_true (h x hx)
      · exact absurd c0 h
  have c1 : ¬ ∀ p ∈ ps, p = 0 := fun h => c (ea.mpr h)
  walk_at "s"
  refine lc_map fr fr (fun q : Rat => [absR q]) xs (by omega) (fun Q h => h) (fun q hq N acc hN => ?_) ?_
  · walk_at "d"
    refine ⟨q, rfl, ?_⟩
    walk_at "d"
    exact hN
  rw [flat_single]
  have absok : ∀ q ∈ xs.map absR, Ok q := fun q hq => by
    obtain ⟨x, hx', rfl⟩ := List.mem_map.mp hq
    have := hx x hx'
    exact ⟨by rw [absR_num]; have := this.n; unfold Wee at *; omega, this.d⟩
  refine ⟨xs.map absR, rfl, absok, fun h0 => ?_, fun q hq hle => ?_⟩
  · have := congrArg List.length h0
    rw [List.length_map] at this
    exact absurd (List.length_eq_zero_iff.mp this) hne
  have hq0 : 0 ≤ q := by
    obtain ⟨x, _, rfl⟩ := List.mem_map.mp hq
    exact absR_nn x
  rw [maxR_eq hq0 (.inr hq) hle]
  clear hle hq hq0
  walk_at "d"
  refine seq_mk (for_map (fun p : Rat × Rat => PyData.tuple [fr p.1, fr p.2]) (xs.zip ps) (fun Q h => by
      walk_at "d"
      rw [pairD_map]; exact h)
    (fun i δ => ∃ r1 r2 : Option Sl, δ = [some (.dat (.list (xs.map fr))), some (.dat (.list (ps.map fr))), some (.dat (fr (maxR (xs.map absR)))), r1, r2] ∧ ∀ j z, j < i → (xs.zip ps)[j]? = some z → FarAt (maxR (xs.map absR)) z)
    ⟨_, _, rfl, fun j z hj => absurd hj (Nat.not_lt_zero _)⟩ ?_ ?_)
  · rintro i y δ hi ⟨r1, r2, rfl, hh⟩
    have hy := List.mem_of_getElem? hi
    have oy := zip_all hx z.ok y hy
    have nx : FarAt (maxR (xs.map absR)) y → ∀ j z, j < i + 1 → (xs.zip ps)[j]? = some z → FarAt (maxR (xs.map absR)) z := fun h j z hj e => by
      by_cases ej : j = i
      · subst ej
        rw [hi] at e
        cases e
        exact h
      · exact hh j z (by omega) e
    have bad : ¬ FarAt (maxR (xs.map absR)) y → Q (.dat (.bool false)) := fun h => k false ⟨fun h => absurd h (by decide), fun hf => by
      rcases hf with ⟨h1, _⟩ | ⟨_, h2, _⟩
      · exact absurd h1 c1
      · exact absurd (h2 y hy) h⟩
    walk_at "d"
    refine ⟨Rat, eRat, y.2, 0, rfl, rfl, fun b hb => ?_⟩
    cases b with
    | true =>
      walk_at "d"
      exact ⟨_, _, rfl, nx fun h => absurd (hb.mp rfl) h⟩
    | false =>
      have p0 : y.2 ≠ 0 := fun z => absurd (hb.mpr z) (by decide)
      walk_at "d"
      refine ⟨y.1, rfl, ?_⟩
      walk_at "d"
      refine ⟨Rat, eRat, absR y.1, maxR (xs.map absR), rfl, rfl, fun b hb => ?_⟩
      cases b with
      | false =>
        walk_at "d"
        exact bad fun h => absurd (hb.mpr (h p0).1) (by decide)
      | true =>
        walk_at "d"
        refine ⟨y.1, y.2, rfl, oy.1, oy.2, ?_⟩
        walk_at "d"
        by_cases hs : 0 < y.1 * y.2
        · rw [if_neg (by simp [hs])]
          exact ⟨_, _, rfl, nx fun _ => ⟨hb.mp rfl, hs⟩⟩
        · rw [if_pos (by simpa using hs)]
          exact bad fun h => absurd (h p0).2 hs
  · rintro δ ⟨r1, r2, rfl, hh⟩
    have hfar : ∀ z ∈ xs.zip ps, FarAt (maxR (xs.map absR)) z := fun y hy => by
      obtain ⟨j, hj⟩ := List.getElem?_of_mem hy
      exact hh j y (List.getElem?_eq_some_iff.mp hj).1 hj
    walk_at "d"
    refine lc_map fr fr (fun q : Rat => [absR q]) ps (by omega) (fun Q h => h) (fun q hq N acc hN => ?_) ?_
    · walk_at "d"
      refine ⟨q, rfl, ?_⟩
      walk_at "d"
      exact hN
    rw [flat_single]
    refine ⟨ps.map absR, rfl, z.absOk, z.totOk, ?_⟩
    walk_at "d"
    refine ⟨Rat, eRat, tot (ps.map absR), 1, rfl, rfl, fun b hb => k b ?_⟩
    rw [hb]
    constructor
    · intro h
      exact .inr ⟨c1, hfar, h⟩
    · rintro (⟨h, _⟩ | ⟨_, _, h⟩)
      · exact absurd h c1
      · exact h
noncomputable def wFairSum : DW := fun ds Q _ => ∃ (ms : List Mk) (xs ps : List Rat), ds = [.list (ms.map mk3), .list (xs.map fr), .list (ps.map fr)] ∧ ms.length ≤ 60 ∧ (∀ m ∈ ms, Wee m.2.2) ∧ (∀ p ∈ ps, Ok p) ∧ ∀ b : Bool, (b = true ↔ FairSum ms xs ps) → Q (.dat (.bool b))
theorem ok_is_fair_sum (T : Txt K mg A) : FnOk P w K mg base (CXE P w) 2 A.a_is_fair_sum A.d_is_fair_sum ["marks", "misses", "pulls"] (spW K wFairSum) := by
  have G_size_of := ok_size_of (P := P) (w := w) (base := base) T
  have G_is_less := ok_is_less (P := P) (w := w) (base := base) T
  refine okW T.F_is_fair_sum sc_is_fair_sum (fun ds Q E h => ?_) (fun cdv Ar outer s H E hr => ?_)
  · obtain ⟨_, _, _, rfl, _⟩ := h; rfl
  refine ⟨_, (pss_cons (ps_for PassesOwn.leaving rfl (pi_zip3 (K := K) rfl rfl T.n_zip (pa_cons (pv 0) (pa_cons (pv 1) (pa_cons (pv 2) pa_nil)))) (pgtK (K := K) (n := 3) rfl rfl (pgs_cons (pg_name (i := 3) sc_is_fair_sum.nd rfl (Or.inl rfl)) (pgs_cons (pg_name (i := 4) sc_is_fair_sum.nd rfl (Or.inl rfl)) (pgs_cons (pg_name (i := 5) sc_is_fair_sum.nd rfl (Or.inl rfl)) pgs_nil))))
        (pss_cons (ps_if (pt_val (pe_call G_is_less (hr.mono (by decide)) rfl T.m_is_less T.F_is_less.kp T.b_is_less .nil passE0 (pa_cons (pe_tup (pa_cons (pe_ix (ixtK (K := K) rfl) (pv 3) pe_int (fun _ _ => rfl)) (pa_cons pe_int pa_nil))) (pa_cons (pe_call G_size_of (hr.mono (by decide)) rfl T.m_size_of T.F_size_of.kp T.b_size_of .nil passE0 (pa_cons (pv 5) pa_nil)) pa_nil)))) (pss_one (ps_ret pe_bl)) pss_nil)
      (pss_cons (ps_if (PW.pt (pw_and (pt_cmpR op_gt (pe_ix (ixtK (K := K) rfl) (pv 4) pe_int (fun _ _ => rfl)) pe_int (nomark _)) (pw_and1 (pt_cmpR (neK (K := K) rfl hr.units) (pv 5) (pe_tup (pa_cons (pe_ix (ixtK (K := K) rfl) (pv 3) pe_int (fun _ _ => rfl)) (pa_cons pe_int pa_nil))) (nomark _))))) (pss_one (ps_ret pe_bl)) pss_nil)
      (pss_one (ps_if (PW.pt (pw_and (pt_cmpR op_lt (pe_ix (ixtK (K := K) rfl) (pv 4) pe_int (fun _ _ => rfl)) pe_int (nomark _)) (pw_and1 (pt_cmpR (neK (K := K) rfl hr.units) (pv 5) (pe_tup (pa_cons (pe_un un_neg (pe_ix (ixtK (K := K) rfl) (pv 3) pe_int (fun _ _ => rfl))) (pa_cons pe_int pa_nil))) (nomark _))))) (pss_one (ps_ret pe_bl)) pss_nil)))))
      (pss_one (ps_ret pe_bl))), _, (sv_seq (sv_for (is_zip3 (ev_var 0) (ev_var 1) (ev_var 2)) (gv_tup (gs_cons (gv_name 3) (gs_cons (gv_name 4) (gs_cons (gv_name 5) gs_nil))))
        (sv_seq (sv_if (tv_b (bv_ev (ev_call0 (av_cons (bv_ev (ev_tup (ae_cons (ev_ixk 2 (ev_var 3)) (ae_cons ev_int ae_nil)) (by decide))) (av_cons (bv_ev (ev_call0 (av_cons (bv_var 5) av_nil))) av_nil))))) (sv_ret (bv_ev ev_bl)) sv_next)
      (sv_cut (sv_if (tv_and (tv_test (bv_ev (ev_op ro_b0 (bv_ev (ev_ixk 0 (ev_var 4))) (bv_ev ev_int)))) (tv_test (bv_ev (ev_op ro_neD (bv_var 5) (bv_ev (ev_tup (ae_cons (ev_ixk 2 (ev_var 3)) (ae_cons ev_int ae_nil)) (by decide))))))) (sv_ret (bv_ev ev_bl)) sv_next)
      (sv_if (tv_and (tv_test (bv_ev (ev_op ro_b0 (bv_ev (ev_ixk 0 (ev_var 4))) (bv_ev ev_int)))) (tv_test (bv_ev (ev_op ro_neD (bv_var 5) (bv_ev (ev_tup (ae_cons (ev_neg (bv_ev (ev_ixk 2 (ev_var 3)))) (ae_cons ev_int ae_nil)) (by decide))))))) (sv_ret (bv_ev ev_bl)) sv_next))))
      (sv_ret (bv_ev ev_bl))), ?_⟩
  rintro ds Q X ⟨ms, xs, ps, rfl, hl, hw, hp, k⟩
  refine seq_mk (for_map (fun p : Mk × Rat × Rat => PyData.tuple [mk3 p.1, fr p.2.1, fr p.2.2]) (ms.zip (xs.zip ps)) (fun Q h => by
      walk_at "d"
      rw [triD_map]; exact h)
    (fun i δ => ∃ r1 r2 r3 : Option Sl, δ = [some (.dat (.list (ms.map mk3))), some (.dat (.list (xs.map fr))), some (.dat (.list (ps.map fr))), r1, r2, r3] ∧ ∀ j z, j < i → (ms.zip (xs.zip ps))[j]? = some z → SumAt (z.1.2.2 : Rat) z.2.1 z.2.2)
    ⟨_, _, _, rfl, fun j z hj => absurd hj (Nat.not_lt_zero _)⟩ ?_ ?_)
  · rintro i y δ hi ⟨r1, r2, r3, rfl, hh⟩
    have hy := List.mem_of_getElem? hi
    have o1 := zip_all (p := fun m : Mk => Wee m.2.2) (q := fun z : Rat × Rat => Ok z.2) hw (fun z hz => (zip_all (p := fun _ => True) (fun _ _ => trivial) hp z hz).2) y hy
    have nx : SumAt (y.1.2.2 : Rat) y.2.1 y.2.2 → ∀ j z, j < i + 1 → (ms.zip (xs.zip ps))[j]? = some z → SumAt (z.1.2.2 : Rat) z.2.1 z.2.2 := fun h j z hj e => by
      by_cases ej : j = i
      · subst ej
        rw [hi] at e
        cases e
        exact h
      · exact hh j z (by omega) e
    have bad : ¬ SumAt (y.1.2.2 : Rat) y.2.1 y.2.2 → Q (.dat (.bool false)) := fun h => k false ⟨fun h => absurd h (by decide), fun hf => absurd (hf y hy) h⟩
    have ow : Ok (y.1.2.2 : Rat) := ⟨o1.1, show Wee ((1 : Nat) : Int) from wee (by decide +kernel)⟩
    have oa : Ok (absR y.2.2) := ⟨by rw [absR_num]; have := o1.2.n; unfold Wee at *; omega, o1.2.d⟩
    walk_at "s"
    refine ⟨y.2.2, rfl, ?_⟩
    walk_at "d"
    refine ⟨(y.1.2.2 : Rat), absR y.2.2, rfl, ow, oa, ?_⟩
    walk_at "d"
    refine ite2 (fun c => ?_) (fun c => ?_)
    · exact bad fun h => absurd h.1 (Rat.not_le.mpr c)
    have c1 : absR y.2.2 ≤ (y.1.2.2 : Rat) := Rat.not_lt.mp c
    refine cut_mk (fun δ => (0 < y.2.1 → y.2.2 = (y.1.2.2 : Rat)) ∧ δ = [some (.dat (.list (ms.map mk3))), some (.dat (.list (xs.map fr))), some (.dat (.list (ps.map fr))), some (.dat (mk3 y.1)), some (.dat (fr y.2.1)), some (.dat (fr y.2.2))]) ?_ ?_
    · walk_at "d"
      refine ite2 (fun c2 => ?_) (fun c2 => ?_)
      · refine ⟨Rat, eRat, y.2.2, (y.1.2.2 : Rat), rfl, rfl, fun b hb => ?_⟩
        have n2 : 0 < y.2.1 := (num_pos_iff _).mp c2
        cases b with
        | true =>
          walk_at "d"
          exact fun _ => hb.mp rfl
        | false =>
          walk_at "d"
          exact bad fun h => absurd (hb.mpr (h.2.1 n2)) (by decide)
      · exact fun z => absurd ((num_pos_iff _).mpr z) c2
    rintro δ ⟨h2, rfl⟩
    walk_at "d"
    refine ite2 (fun c3 => ?_) (fun c3 => ?_)
    · refine ⟨Rat, eRat, y.2.2, ((-y.1.2.2 : Int) : Rat), rfl, rfl, fun b hb => ?_⟩
      rw [Rat.intCast_neg] at hb
      have n3 : y.2.1 < 0 := (num_neg_iff _).mp c3
      cases b with
      | true =>
        walk_at "d"
        exact ⟨_, _, _, rfl, nx ⟨c1, h2, fun _ => hb.mp rfl⟩⟩
      | false =>
        walk_at "d"
        exact bad fun h => absurd (hb.mpr (h.2.2 n3)) (by decide)
    · exact ⟨_, _, _, rfl, nx ⟨c1, h2, fun z => absurd ((num_neg_iff _).mpr z) c3⟩⟩
  · rintro δ ⟨r1, r2, r3, rfl, hh⟩
    walk_at "d"
    refine k true ⟨fun _ y hy => ?_, fun _ => rfl⟩
    obtain ⟨j, hj⟩ := List.getElem?_of_mem hy
    exact hh j y (List.getElem?_eq_some_iff.mp hj).1 hj
noncomputable def wFair (C : Addr) : DW := fun ds Q X => ∃ (d : PyData) (ms : List Mk) (row ps : List Rat) (L B W l b wd L2 B2 l2 b2 : Nat), ds = [d, .list (ms.map mk3), .list (row.map fr), .list (ps.map fr)] ∧ MSz L B W l b wd ms row ∧ PSz L2 B2 l2 b2 ps ∧ ms ≠ [] ∧ row.length = ms.length ∧ ps.length = ms.length ∧ (∀ kd : Str, d = .str kd → PyData.strOk kd = true) ∧
  (∀ kd : Str, d = .str kd → kd ∈ kdsL → ∀ b : Bool, (b = true ↔ Fair kd ms row ps) → Q (.dat (.bool b))) ∧ ((∀ kd : Str, d = .str kd → kd ∉ kdsL) → X C)
theorem zip_eq_all : ∀ {ps ws : List Rat}, ps.length = ws.length → ((∀ z ∈ ps.zip ws, z.1 = z.2) ↔ ps = ws)
  | [], [], _ => by simp
  | p :: ps, w :: ws, h => by
    have ih := zip_eq_all (ps := ps) (ws := ws) (by simpa using h)
    simp only [List.zip_cons_cons, List.forall_mem_cons, ih, List.cons.injEq]
theorem ok_is_fair (T : Txt K mg A) : FnOk P w K mg base (CXE P w) 6 A.a_is_fair A.d_is_fair ["kind", "marks", "row", "pulls"] (spW K (wFair A.x_NoKind)) := by
  have G_check_kind := ok_check_kind (P := P) (w := w) (base := base) T
  have G_misses_of := ok_misses_of (P := P) (w := w) (base := base) T
  have G_weighed_misses := ok_weighed_misses (P := P) (w := w) (base := base) T
  have G_is_fair_far := ok_is_fair_far (P := P) (w := w) (base := base) T
  have G_is_fair_sum := ok_is_fair_sum (P := P) (w := w) (base := base) T
  refine okW T.F_is_fair sc_is_fair (fun ds Q E h => ?_) (fun cdv Ar outer s H E hr => ?_)
  · obtain ⟨_, _, _, _, _, _, _, _, _, _, _, _, _, _, rfl, _⟩ := h; rfl
  refine ⟨_, (pss_cons (ps_expr (pe_call G_check_kind (hr.mono (by decide)) rfl T.m_check_kind T.F_check_kind.kp T.b_check_kind .nil pass_own (pa_cons (pv 0) pa_nil)))
      (pss_cons (ps_if (pt_cmpR op_eq (pv 0) pe_str (nomark _)) (pss_one (ps_ret (pe_call G_is_fair_far (hr.mono (by decide)) rfl T.m_is_fair_far T.F_is_fair_far.kp T.b_is_fair_far .nil passE0 (pa_cons (pe_call G_misses_of (hr.mono (by decide)) rfl T.m_misses_of T.F_misses_of.kp T.b_misses_of .nil passE0 (pa_cons (pv 1) (pa_cons (pv 2) pa_nil))) (pa_cons (pv 3) pa_nil))))) pss_nil)
      (pss_cons (ps_if (pt_cmpR op_eq (pv 0) pe_str (nomark _)) (pss_one (ps_ret (pe_call G_is_fair_sum (hr.mono (by decide)) rfl T.m_is_fair_sum T.F_is_fair_sum.kp T.b_is_fair_sum .nil passE0 (pa_cons (pv 1) (pa_cons (pe_call G_misses_of (hr.mono (by decide)) rfl T.m_misses_of T.F_misses_of.kp T.b_misses_of .nil passE0 (pa_cons (pv 1) (pa_cons (pv 2) pa_nil))) (pa_cons (pv 3) pa_nil)))))) pss_nil)
      (pss_one (ps_ret (pe_callB (allK (K := K) rfl rfl) rfl T.n_all Dl.boot_all (pa_cons (pe_lc (cap := [none, none]) (NC := ["pull", "one"]) rfl ⟨rfl, rfl, by decide +kernel, by decide +kernel, trivial, (fun _ h => nomatch h), rfl⟩ (pi_zip (K := K) rfl rfl T.n_zip (pa_cons (pv 3) (pa_cons (pe_call G_weighed_misses (hr.mono (by decide)) rfl T.m_weighed_misses T.F_weighed_misses.kp T.b_weighed_misses .nil passE0 (pa_cons (pv 1) (pa_cons (pv 2) pa_nil))) pa_nil))) (fun _ _ _ _ => (pgtK (K := K) (n := 2) rfl rfl (pgs_cons (pg_name (i := 0) (show List.Nodup (["pull", "one"] : List Str) by decide) rfl (Or.inl rfl)) (pgs_cons (pg_name (i := 1) (show List.Nodup (["pull", "one"] : List Str) by decide) rfl (Or.inl rfl)) pgs_nil)))) (fun _ _ _ _ => pts_nil) (fun _ _ _ _ => (pe_cmpR (eqK (K := K) rfl hr.units) (pv 0) (pv 1) (nomark _)))) pa_nil))))))), _, (sv_seq (sv_expr (bv_ev (ev_call (av_cons (bv_var 0) av_nil))))
      (sv_seq (sv_if (tv_test (bv_ev (ev_op ro_eq (bv_var 0) (bv_ev ev_str)))) (sv_ret (bv_ev (ev_call0 (av_cons (bv_ev (ev_ov (ov_call0 (av_cons (bv_var 1) (av_cons (bv_var 2) av_nil))))) (av_cons (bv_var 3) av_nil))))) sv_next)
      (sv_seq (sv_if (tv_test (bv_ev (ev_op ro_eq (bv_var 0) (bv_ev ev_str)))) (sv_ret (bv_ev (ev_call0 (av_cons (bv_var 1) (av_cons (bv_ev (ev_ov (ov_call0 (av_cons (bv_var 1) (av_cons (bv_var 2) av_nil))))) (av_cons (bv_var 3) av_nil)))))) sv_next)
      (sv_ret (bv_ev (ev_cb rb_all (av_cons (bv_ev (ev_ov (ov_lc (ie_zip (lv_var 3) (lv_ov (ov_call0 (av_cons (bv_var 1) (av_cons (bv_var 2) av_nil))))) (gv_tup (gs_cons (gv_name 0) (gs_cons (gv_name 1) gs_nil))) tv_yes (ev_op ro_eqD (bv_var 0) (bv_var 1)) (by decide) (by decide)))) av_nil))))))), ?_⟩
  rintro ds Q X ⟨d, ms, row, ps, L, B, W, l, b, wd, L2, B2, l2, b2, rfl, z, y, hne, hlr, hlp, ok, k, kx⟩
  have zl := z.len
  have hml : (missR ms row).length = ms.length := by unfold missR; rw [List.length_zipWith]; omega
  have hwl : (wmissR ms row).length = ms.length := by unfold wmissR; rw [List.length_zipWith]; omega
  walk_at "s"
  refine ⟨d, rfl, ok, ?_, kx⟩
  rintro ⟨kd, rfl, hkd⟩
  have kq := k kd rfl hkd
  unfold Fair at kq
  walk_at "s"
  refine ite2 (fun c => ?_) (fun c => ?_)
  · have ek : kd = "far" := c
    rw [if_pos ek] at kq
    walk_at "d"
    refine ⟨ms, row, rfl, by omega, z.hOk, z.rOk, ?_⟩
    walk_at "d"
    refine ⟨frs_flat _, missR ms row, ps, L2, B2, l2, b2, rfl, y, by omega, fun h0 => ?_, z.missOk, fun b hb => ?_⟩
    · rw [h0] at hml
      exact hne (List.length_eq_zero_iff.mp hml.symm)
    · walk_at "d"
      exact kq b hb
  have nk : kd ≠ "far" := c
  rw [if_neg nk] at kq
  walk_at "s"
  refine ite2 (fun c => ?_) (fun c => ?_)
  · have ek : kd = "sum" := c
    rw [if_pos ek] at kq
    walk_at "d"
    refine ⟨ms, row, rfl, by omega, z.hOk, z.rOk, ?_⟩
    walk_at "d"
    refine ⟨frs_flat _, ms, missR ms row, ps, rfl, zl, fun m hm => (z.wOk hm).n, y.ok, fun b hb => ?_⟩
    walk_at "d"
    exact kq b hb
  · have nk2 : kd ≠ "sum" := c
    rw [if_neg nk2] at kq
    walk_at "d"
    refine lc_map (fun p : Rat × Rat => PyData.tuple [fr p.1, fr p.2]) PyData.bool (fun p : Rat × Rat => [decide (p.1 = p.2)]) (ps.zip (wmissR ms row)) (by rw [List.length_zip]; omega) (fun Q h => by
        walk_at "d"
        refine ⟨ms, row, L, B, W, l, b, wd, rfl, z, ?_⟩
        walk_at "d"
        refine ⟨frs_flat _, ?_⟩
        rw [pairD_map]; exact h) (fun p hp N acc hN => ?_) ?_
    · walk_at "d"
      refine ⟨Rat, eRat, p.1, p.2, rfl, rfl, fun b hb => ?_⟩
      rw [bool_dec hb]
      exact hN
    rw [flat_single]
    walk_at "d"
    refine ⟨_, rfl, ?_⟩
    walk_at "d"
    refine kq _ ?_
    rw [← zip_eq_all (by omega)]
    simp
end
noncomputable def Rises (row : List Rat) : Prop := ∀ k, k + 1 < row.length → row.getD k 0 ≤ row.getD (k + 1) 0
noncomputable def endAt (row : List Rat) (k : Nat) : Prop := k + 1 = row.length ∨ row.getD (k + 1) 0 ≠ row.getD k 0
noncomputable def Holds1 (row pulls : List Rat) (k : Nat) : Prop := 0 ≤ tot (pulls.take (k + 1)) ∧ (endAt row k → tot (pulls.take (k + 1)) = 0)
noncomputable def Holds (row pulls : List Rat) : Prop := ∀ k, k < row.length → Holds1 row pulls k
theorem getD_of {α : Type} {xs : List α} {k : Nat} {d : α} (h : k < xs.length) : xs.getD k d = xs[k] := by simp [List.getD, h]
theorem any_false {α : Type} {p : α → Bool} {xs : List α} : (xs.any p = false) ↔ ∀ x ∈ xs, p x = false := by simp
theorem rises_any (row : List Rat) : ((!((List.zipWith (fun a h : Rat => decide (h < a)) row row.tail).any id)) = true) ↔ Rises row := by
  rw [Bool.not_eq_true', any_false]
  constructor
  · intro h k hk
    have hk2 : k < (List.zipWith (fun a h : Rat => decide (h < a)) row row.tail).length := by
      rw [List.length_zipWith, List.length_tail]; omega
    have := h _ (List.getElem_mem hk2)
    rw [List.getElem_zipWith, List.getElem_tail] at this
    rw [getD_of (by omega), getD_of hk]
    have := of_decide_eq_false this
    exact Rat.not_lt.mp this
  · intro h x hx
    obtain ⟨k, hk, rfl⟩ := List.getElem_of_mem hx
    rw [List.getElem_zipWith, List.getElem_tail]
    rw [List.length_zipWith, List.length_tail] at hk
    have := h k (by omega)
    rw [getD_of (by omega), getD_of (by omega)] at this
    exact decide_eq_false (Rat.not_lt.mpr this)
theorem atI_rat {qs : List Rat} {k : Int} {j : Nat} (e : k = (j : Int)) (h : j < qs.length) : atI (qs.map fr) k = some (fr (qs.getD j 0)) := by
  rw [atI_mk (xs := qs) fr (by omega) (by omega)]
  rw [e, Int.toNat_natCast, getD_of h, getD_of h]
section
variable {P : Program} {w : World} {K : PySem.W.Frag} {mg : Str → Option Value} {base : Heap} {A : Adr}
noncomputable def wRises : DW := fun ds Q _ => ∃ row : List Rat, ds = [.list (row.map fr)] ∧ row.length ≤ 1000 ∧ (∀ q ∈ row, Ok q) ∧ ∀ b : Bool, (b = true ↔ Rises row) → Q (.dat (.bool b))
theorem ok_rises (T : Txt K mg A) : FnOk P w K mg base (CXE P w) 2 A.a_rises A.d_rises ["row"] (spW K wRises) := by
  have G_is_less := ok_is_less (P := P) (w := w) (base := base) T
  refine okW T.F_rises sc_rises (fun ds Q E h => ?_) (fun cdv Ar outer s H E hr => ?_)
  · obtain ⟨_, rfl, _⟩ := h; rfl
  refine ⟨_, (pss_one (ps_ret (pe_not (pe_callB (anyK (K := K) rfl rfl) rfl T.n_any Dl.boot_any (pa_cons (pe_lc (cap := [none, none]) (NC := ["ahead", "height"]) rfl ⟨rfl, rfl, by decide +kernel, by decide +kernel, trivial, (fun _ h => nomatch h), rfl⟩ (pi_zip (K := K) rfl rfl T.n_zip (pa_cons (pv 0) (pa_cons (pe_slice (sllK (K := K) rfl) (pv 0) (po_some pe_int) po_none) pa_nil))) (fun _ _ _ _ => (pgtK (K := K) (n := 2) rfl rfl (pgs_cons (pg_name (i := 0) (show List.Nodup (["ahead", "height"] : List Str) by decide) rfl (Or.inl rfl)) (pgs_cons (pg_name (i := 1) (show List.Nodup (["ahead", "height"] : List Str) by decide) rfl (Or.inl rfl)) pgs_nil)))) (fun _ _ _ _ => pts_nil) (fun _ _ _ _ => (pe_call G_is_less (hr.mono (by decide)) rfl T.m_is_less T.F_is_less.kp T.b_is_less .nil passE0 (pa_cons (pv 1) (pa_cons (pv 0) pa_nil))))) pa_nil))))), _, (sv_ret (bv_ev (ev_not (bv_ev (ev_cb rb_any (av_cons (bv_ev (ev_ov (ov_lc (ie_zip (lv_var 0) (lv_ov (ov_sl (lv_var 0) (op_part (bv_ev ev_int)) op_no))) (gv_tup (gs_cons (gv_name 0) (gs_cons (gv_name 1) gs_nil))) tv_yes (ev_call0 (av_cons (bv_var 1) (av_cons (bv_var 0) av_nil))) (by decide) (by decide)))) av_nil)))))), ?_⟩
  rintro ds Q X ⟨row, rfl, hl, ho, k⟩
  walk_at "d"
  refine lc_map (fun p : Rat × Rat => PyData.tuple [fr p.1, fr p.2]) PyData.bool (fun p : Rat × Rat => [decide (p.2 < p.1)]) (row.zip row.tail) (by rw [List.length_zip]; omega) (fun Q h => by
      walk_at "d"
      rw [cutL_map, show (1 : Int) = ((1 : Nat) : Int) from rfl, cutL_lo, List.drop_one, pairD_map]; exact h) (fun p hp N acc hN => ?_) ?_
  · have := zip_all ho (fun q hq => ho q (List.mem_of_mem_tail hq)) p hp
    walk_at "d"
    refine ⟨p.2, p.1, rfl, this.2, this.1, ?_⟩
    walk_at "d"
    exact hN
  · rw [flat_single, zip_map (fun a h : Rat => decide (h < a))]
    walk_at "d"
    refine ⟨_, rfl, ?_⟩
    walk_at "d"
    exact k _ (rises_any row)
noncomputable def wHolds : DW := fun ds Q _ => ∃ (row pulls : List Rat) (L B l b : Nat), ds = [.list (row.map fr), .list (pulls.map fr)] ∧ row.length ≤ 60 ∧ pulls.length = row.length ∧ 0 < L ∧ L ≤ 10 ^ l ∧ B ≤ 10 ^ b ∧ (∀ q ∈ pulls, Cm L B q) ∧ l + b + 4 ≤ 2400 ∧ ∀ b : Bool, (b = true ↔ Holds row pulls) → Q (.dat (.bool b))
theorem holds_sz {pulls : List Rat} {L B l b : Nat} (hl : pulls.length ≤ 60) (h0 : 0 < L) (h1 : L ≤ 10 ^ l) (h2 : B ≤ 10 ^ b) (h : ∀ q ∈ pulls, Cm L B q) (k : Nat) : Dg (b + 2 + l + 1) (tot (pulls.take k)) := by
  have := Cm.tot (qs := pulls.take k) (L := L) (B := B) fun q hq => h q (List.mem_of_mem_take hq)
  exact this.dg h0 h1 (sixty_ten (by rw [List.length_take]; omega) h2)
theorem ok_holds_up (T : Txt K mg A) : FnOk P w K mg base (CXE P w) 3 A.a_holds_up A.d_holds_up ["row", "pulls"] (spW K wHolds) := by
  have G_is_less := ok_is_less (P := P) (w := w) (base := base) T
  have G_plus := ok_plus (P := P) (w := w) (base := base) T
  refine okW T.F_holds_up sc_holds_up (fun ds Q E h => ?_) (fun cdv Ar outer s H E hr => ?_)
  · obtain ⟨_, _, _, _, _, _, rfl, _⟩ := h; rfl
  refine ⟨_, (pss_cons (ps_set (i := 2) sc_holds_up.nd rfl (Or.inl rfl) (pe_glob rfl T.c_NOUGHT (show RelV (.ref _) (.ref _) from rfl)))
      (pss_cons (ps_for PassesOwn.leaving rfl (pi_range1 rfl T.n_range (pa_cons (pe_callB (lenK (K := K) rfl) rfl T.n_len PySem.boot_len (pa_cons (pv 0) pa_nil)) pa_nil)) (pg_name (i := 3) sc_holds_up.nd rfl (Or.inl rfl))
        (pss_cons (ps_set (i := 2) sc_holds_up.nd rfl (Or.inl rfl) (pe_call G_plus (hr.mono (by decide)) rfl T.m_plus T.F_plus.kp T.b_plus .nil passE0 (pa_cons (pv 2) (pa_cons (pe_ix (ixlK (K := K) rfl) (pv 1) (pv 3) (fun _ _ => rfl)) pa_nil))))
      (pss_cons (ps_if (pt_val (pe_call G_is_less (hr.mono (by decide)) rfl T.m_is_less T.F_is_less.kp T.b_is_less .nil passE0 (pa_cons (pv 2) (pa_cons (pe_glob rfl T.c_NOUGHT (show RelV (.ref _) (.ref _) from rfl)) pa_nil)))) (pss_one (ps_ret pe_bl)) pss_nil)
      (pss_cons (ps_set (i := 4) sc_holds_up.nd rfl (Or.inl rfl) (pe_or (pe_cmpR op_eq (pe_op op_add (pv 3) pe_int) (pe_callB (lenK (K := K) rfl) rfl T.n_len PySem.boot_len (pa_cons (pv 0) pa_nil)) (nomark _)) (pe_one (pe_cmpR (neK (K := K) rfl hr.units) (pe_ix (ixlK (K := K) rfl) (pv 0) (pe_op op_add (pv 3) pe_int) (fun _ _ => rfl)) (pe_ix (ixlK (K := K) rfl) (pv 0) (pv 3) (fun _ _ => rfl)) (nomark _)))))
      (pss_one (ps_if (PW.pt (pw_and (pt_val (pv 4)) (pw_and1 (pt_cmpR (neK (K := K) rfl hr.units) (pv 2) (pe_glob rfl T.c_NOUGHT (show RelV (.ref _) (.ref _) from rfl)) (nomark _))))) (pss_one (ps_ret pe_bl)) pss_nil))))))
      (pss_one (ps_ret pe_bl)))), _, (sv_seq (sv_asg (ev_c T.k_NOUGHT) (gv_name 2))
      (sv_seq (sv_for (is_rng1 (av_cons (bv_ev (ev_cb rb_len (av_cons (bv_var 0) av_nil))) av_nil)) (gv_name 3)
        (sv_seq (sv_asg (ev_call0 (av_cons (bv_var 2) (av_cons (bv_ev (ev_ixl (lv_var 1) (bv_var 3))) av_nil))) (gv_name 2))
      (sv_seq (sv_if (tv_b (bv_ev (ev_call0 (av_cons (bv_var 2) (av_cons (bv_ev (ev_c T.k_NOUGHT)) av_nil))))) (sv_ret (bv_ev ev_bl)) sv_next)
      (sv_seq (sv_asg (ev_or (bv_ev (ev_op ro_eq (bv_ev (ev_op ro_i0 (bv_var 3) (bv_ev ev_int))) (bv_ev (ev_cb rb_len (av_cons (bv_var 0) av_nil))))) (ev_op ro_neD (bv_ev (ev_ixl (lv_var 0) (bv_ev (ev_op ro_i0 (bv_var 3) (bv_ev ev_int))))) (bv_ev (ev_ixl (lv_var 0) (bv_var 3))))) (gv_name 4))
      (sv_if (tv_and (tv_b (bv_var 4)) (tv_test (bv_ev (ev_op ro_neD (bv_var 2) (bv_ev (ev_c T.k_NOUGHT)))))) (sv_ret (bv_ev ev_bl)) sv_next)))))
      (sv_ret (bv_ev ev_bl)))), ?_⟩
  rintro ds Q X ⟨row, pulls, L, B, l, b, rfl, hl, hpl, h0, h1, h2, hc, hf, k⟩
  have sz := holds_sz (by omega) h0 h1 h2 hc
  walk_at "s"
  refine seq_mk (for_rng (lo := 0) (st := 1) (n := row.length) (fun Q h => by
      walk_at "d"
      refine ⟨by omega, ?_⟩
      rw [Int.toNat_natCast]; exact h)
    (fun i δ => ∃ r1 r2 : Option Sl, δ = [some (.dat (.list (row.map fr))), some (.dat (.list (pulls.map fr))), some (.dat (fr (tot (pulls.take i)))), r1, r2] ∧ ∀ j, j < i → Holds1 row pulls j)
    ⟨_, _, rfl, fun j hj => absurd hj (Nat.not_lt_zero _)⟩ ?_ ?_)
  · rintro i δ hi ⟨r1, r2, rfl, hh⟩
    obtain ⟨kk, hkk⟩ : ∃ kk : Int, (0 : Int) + (i : Int) * 1 = kk := ⟨_, rfl⟩
    rw [hkk]
    have ek : kk = (i : Int) := by omega
    have hip : i < pulls.length := by omega
    have hpi : pulls[i]? = some (pulls.getD i 0) := by rw [getD_of hip, List.getElem?_eq_getElem hip]
    have hci := hc _ (List.mem_of_getElem? hpi)
    walk_at "s"
    refine ⟨_, atI_rat ek hip, _, pulls.getD i 0, rfl, dgOk (sz i) (by omega), dgOk (hci.dg h0 h1 h2) (by omega), ?_⟩
    have et : tot (pulls.take i) + pulls.getD i 0 = tot (pulls.take (i + 1)) := by rw [take_snoc hpi, tot_snoc]
    dsimp only
    rw [et]
    walk_at "s"
    refine ⟨_, 0, rfl, dgOk (sz (i + 1)) (by omega), ⟨wee (by decide +kernel), wee (by decide +kernel)⟩, ?_⟩
    walk_at "d"
    refine ite2 (fun c => ?_) (fun c => ?_)
    · have c' : tot (pulls.take (i + 1)) < 0 := c
      refine k false ⟨fun h => absurd h (by decide), fun h => ?_⟩
      have := (h i hi).1
      exact absurd c' (Rat.not_lt.mpr this)
    have c' : 0 ≤ tot (pulls.take (i + 1)) := Rat.not_lt.mp c
    have goOn : ∀ e : Bool, (e = true ↔ endAt row i) → dIfS (dAnd (dAsB (dBVar 4)) (dAsB (dOp oNeD (dBVar 2) (dC (.tuple [.int 0, .int 1]))))) (dRet (dC (.bool false))) dNext
        { nx := fun δ => ∃ r1 r2 : Option Sl, δ = [some (.dat (.list (row.map fr))), some (.dat (.list (pulls.map fr))), some (.dat (fr (tot (pulls.take (i + 1))))), r1, r2] ∧ ∀ j, j < i + 1 → Holds1 row pulls j, rt := Q, ex := X }
        [some (.dat (.list (row.map fr))), some (.dat (.list (pulls.map fr))), some (.dat (fr (tot (pulls.take (i + 1))))), some (.dat (.int kk)), some (.dat (.bool e))] := fun e he => by
      walk_at "d"
      cases e with
      | false =>
        walk_at "d"
        exact ⟨_, _, rfl, fun j hj => by
          by_cases ej : j = i
          · subst ej; exact ⟨c', fun h => absurd (he.mpr h) (by decide)⟩
          · exact hh j (by omega)⟩
      | true =>
        walk_at "d"
        refine ⟨Rat, eRat, tot (pulls.take (i + 1)), 0, rfl, rfl, fun b hb => ?_⟩
        cases b with
        | true =>
          walk_at "d"
          exact ⟨_, _, rfl, fun j hj => by
            by_cases ej : j = i
            · subst ej; exact ⟨c', fun _ => hb.mp rfl⟩
            · exact hh j (by omega)⟩
        | false =>
          walk_at "d"
          refine k false ⟨fun h => absurd h (by decide), fun h => ?_⟩
          exact absurd (hb.mpr ((h i hi).2 (he.mp rfl))) (by decide)
    walk_at "s"
    by_cases hend : i + 1 = row.length
    · rw [if_pos (by omega)]
      exact goOn true ⟨fun _ => .inl hend, fun _ => rfl⟩
    · rw [if_neg (by omega)]
      refine ⟨_, atI_rat (j := i + 1) (by omega) (by omega), _, atI_rat ek hi, ?_⟩
      refine ⟨Rat, eRat, row.getD (i + 1) 0, row.getD i 0, rfl, rfl, fun b hb => ?_⟩
      refine goOn (!b) ?_
      unfold endAt
      cases b with
      | true => exact ⟨fun h => absurd h (by decide), fun h => by
          rcases h with h | h
          · omega
          · exact absurd (hb.mp rfl) h⟩
      | false => exact ⟨fun _ => .inr fun z => absurd (hb.mpr z) (by decide), fun _ => rfl⟩
  · rintro δ ⟨r1, r2, rfl, hh⟩
    walk_at "d"
    exact k true ⟨fun _ => hh, fun _ => rfl⟩
end
noncomputable abbrev Pr := Rat × Rat
noncomputable def pr2 (z : Pr) : PyData := .tuple [fr z.1, fr z.2]
theorem prs_flat : ∀ zs : List Pr, flatDs (zs.map pr2) = true
  | [] => rfl
  | z :: zs => by
    have := prs_flat zs
    simp only [List.map_cons, flatDs, pr2, flatD, fr, this, Bool.and_self]
noncomputable def UpP (zs : List Pr) : Prop := zs.Pairwise fun a b => a.1 ≤ b.1
noncomputable def cntP (zs : List Pr) (p : Rat) : Nat := (zs.flatMap fun z => if z.1 < p then [z] else []).length
theorem cntP_app (a b : List Pr) (p : Rat) : cntP (a ++ b) p = cntP a p + cntP b p := by
  unfold cntP
  rw [List.flatMap_append, List.length_append]
theorem cntP_all {a : List Pr} {p : Rat} (h : ∀ z ∈ a, z.1 < p) : cntP a p = a.length := by
  induction a with
  | nil => rfl
  | cons m a ih =>
    have e : cntP (m :: a) p = cntP [m] p + cntP a p := cntP_app [m] a p
    have e1 : cntP [m] p = 1 := by unfold cntP; simp [h m List.mem_cons_self]
    rw [e, e1, ih fun x hx => h x (List.mem_cons_of_mem _ hx), List.length_cons]
    omega
theorem cntP_none {a : List Pr} {p : Rat} (h : ∀ z ∈ a, ¬ z.1 < p) : cntP a p = 0 := by
  induction a with
  | nil => rfl
  | cons m a ih =>
    have e : cntP (m :: a) p = cntP [m] p + cntP a p := cntP_app [m] a p
    have e1 : cntP [m] p = 0 := by unfold cntP; simp [h m List.mem_cons_self]
    rw [e, e1, ih fun x hx => h x (List.mem_cons_of_mem _ hx)]
theorem upP_split (p : Rat) : ∀ {zs : List Pr}, UpP zs → ∃ a b, zs = a ++ b ∧ (∀ z ∈ a, z.1 < p) ∧ (∀ z ∈ b, ¬ z.1 < p)
  | [], _ => ⟨[], [], rfl, (fun _ h => nomatch h), fun _ h => nomatch h⟩
  | m :: ms, h => by
    have h1 := List.pairwise_cons.mp h
    by_cases c : m.1 < p
    · obtain ⟨a, b, e, h2, h3⟩ := upP_split p h1.2
      refine ⟨m :: a, b, by rw [e]; rfl, fun x hx => ?_, h3⟩
      rcases List.mem_cons.mp hx with rfl | hx
      · exact c
      · exact h2 x hx
    · refine ⟨[], m :: ms, rfl, (fun _ h => nomatch h), fun x hx => ?_⟩
      rcases List.mem_cons.mp hx with rfl | hx
      · exact c
      · have := h1.1 x hx
        grind
theorem upP_ins {zs : List Pr} (h : UpP zs) (z : Pr) : cntP zs z.1 ≤ zs.length ∧ UpP (zs.take (cntP zs z.1) ++ z :: zs.drop (cntP zs z.1)) ∧ (zs.take (cntP zs z.1) ++ z :: zs.drop (cntP zs z.1)).Perm (zs ++ [z]) := by
  obtain ⟨a, b, e, h1, h2⟩ := upP_split z.1 h
  have ec : cntP zs z.1 = a.length := by rw [e, cntP_app, cntP_all h1, cntP_none h2]; rfl
  have et : zs.take a.length = a := by rw [e]; simp
  have ed : zs.drop a.length = b := by rw [e]; simp
  rw [ec, et, ed]
  refine ⟨by rw [e, List.length_append]; omega, ?_, ?_⟩
  · rw [e] at h
    have h3 := List.pairwise_append.mp h
    refine List.pairwise_append.mpr ⟨h3.1, List.pairwise_cons.mpr ⟨fun y hy => Rat.not_lt.mp (h2 y hy), h3.2.1⟩, fun x hx y hy => ?_⟩
    rcases List.mem_cons.mp hy with rfl | hy
    · have := h1 x hx; grind
    · exact h3.2.2 x hx y hy
  · rw [e, List.append_assoc]
    exact List.Perm.append_left a (List.perm_append_comm (l₁ := [z]) (l₂ := b))
theorem tot_perm {a b : List Rat} (h : a.Perm b) : tot a = tot b := by
  induction h with
  | nil => rfl
  | cons x _ ih => simp only [tot, ih]
  | swap x y l => simp only [tot]; grind
  | trans _ _ i1 i2 => rw [i1, i2]
noncomputable def fsum (p : Pr → Bool) (zs : List Pr) : Rat := tot ((zs.filter p).map (·.2))
theorem fsum_app (p : Pr → Bool) (a b : List Pr) : fsum p (a ++ b) = fsum p a + fsum p b := by
  unfold fsum
  rw [List.filter_append, List.map_append, tot_app]
theorem fsum_all {p : Pr → Bool} {a : List Pr} (h : ∀ z ∈ a, p z = true) : fsum p a = tot (a.map (·.2)) := by
  unfold fsum
  rw [List.filter_eq_self.mpr h]
theorem fsum_none {p : Pr → Bool} {a : List Pr} (h : ∀ z ∈ a, ¬ p z = true) : fsum p a = 0 := by
  unfold fsum
  rw [List.filter_eq_nil_iff.mpr h]; rfl
theorem tot_nn : ∀ {a : List Rat}, (∀ q ∈ a, 0 ≤ q) → 0 ≤ tot a
  | [], _ => Rat.le_refl
  | x :: a, h => by
    have h1 := h x List.mem_cons_self
    have h2 := tot_nn (a := a) fun q hq => h q (List.mem_cons_of_mem _ hq)
    simp only [tot]
    grind
theorem fsum_nn {p : Pr → Bool} {a : List Pr} (h : ∀ z ∈ a, 0 ≤ z.2) : 0 ≤ fsum p a := tot_nn fun q hq => by
  obtain ⟨z, hz, rfl⟩ := List.mem_map.mp hq
  exact h z (List.mem_filter.mp hz).1
theorem fsum_le {p : Pr → Bool} : ∀ {a : List Pr}, (∀ z ∈ a, 0 ≤ z.2) → fsum p a ≤ tot (a.map (·.2))
  | [], _ => Rat.le_refl
  | x :: a, h => by
    have h1 := h x List.mem_cons_self
    have h2 := fsum_le (p := p) (a := a) fun q hq => h q (List.mem_cons_of_mem _ hq)
    have e : fsum p (x :: a) = fsum p [x] + fsum p a := fsum_app p [x] a
    have e1 : fsum p [x] ≤ x.2 := by
      unfold fsum
      by_cases c : p x = true
      · simp [c, tot]; grind
      · simp [c, tot]; exact h1
    rw [e]
    simp only [List.map_cons, tot]
    grind
theorem fsum_perm {p : Pr → Bool} {a b : List Pr} (h : a.Perm b) : fsum p a = fsum p b := tot_perm ((h.filter p).map _)
structure Mid (zs : List Pr) (x : Rat) : Prop where
  mem : ∃ z ∈ zs, z.1 = x
  lo : fsum (fun z => decide (z.1 < x)) zs + fsum (fun z => decide (z.1 < x)) zs < tot (zs.map (·.2))
  hi : tot (zs.map (·.2)) ≤ fsum (fun z => decide (z.1 ≤ x)) zs + fsum (fun z => decide (z.1 ≤ x)) zs
theorem mid_of {zs ps : List Pr} {s : Nat} (up : UpP ps) (pm : ps.Perm zs) (nn : ∀ z ∈ zs, 0 ≤ z.2) (hs : s < ps.length) (h1 : tot ((ps.take s).map (·.2)) + tot ((ps.take s).map (·.2)) < tot (zs.map (·.2)))
    (h2 : tot (zs.map (·.2)) ≤ tot ((ps.take (s + 1)).map (·.2)) + tot ((ps.take (s + 1)).map (·.2))) : Mid zs ps[s].1 := by
  have np : ∀ z ∈ ps, 0 ≤ z.2 := fun z hz => nn z (pm.mem_iff.mp hz)
  refine ⟨⟨ps[s], pm.mem_iff.mp (List.getElem_mem hs), rfl⟩, ?_, ?_⟩
  · rw [← fsum_perm pm]
    have e := fsum_app (fun z => decide (z.1 < ps[s].1)) (ps.take s) (ps.drop s)
    rw [List.take_append_drop] at e
    have e0 : fsum (fun z => decide (z.1 < ps[s].1)) (ps.drop s) = 0 := fsum_none fun z hz => by
      rw [List.drop_eq_getElem_cons hs] at hz
      have hp : UpP (ps.drop s) := List.Pairwise.drop up
      rw [List.drop_eq_getElem_cons hs] at hp
      rcases List.mem_cons.mp hz with rfl | hz
      · simp
      · have := (List.pairwise_cons.mp hp).1 z hz
        simpa using Rat.not_lt.mpr this
    have e1 := fsum_le (p := fun z => decide (z.1 < ps[s].1)) (a := ps.take s) fun z hz => np z (List.mem_of_mem_take hz)
    grind
  · rw [← fsum_perm pm]
    have e := fsum_app (fun z => decide (z.1 ≤ ps[s].1)) (ps.take (s + 1)) (ps.drop (s + 1))
    rw [List.take_append_drop] at e
    have e0 := fsum_nn (p := fun z => decide (z.1 ≤ ps[s].1)) (a := ps.drop (s + 1)) fun z hz => np z (List.mem_of_mem_drop hz)
    have e1 : fsum (fun z => decide (z.1 ≤ ps[s].1)) (ps.take (s + 1)) = tot ((ps.take (s + 1)).map (·.2)) := fsum_all fun z hz => by
      obtain ⟨i, hi, rfl⟩ := List.getElem_of_mem hz
      rw [List.getElem_take]
      rw [List.length_take] at hi
      by_cases c : i = s
      · subst c; simp
      · have := List.pairwise_iff_getElem.mp up i s (by omega) hs (by omega)
        simpa using this
    grind
section
variable {P : Program} {w : World} {K : PySem.W.Frag} {mg : Str → Option Value} {base : Heap} {A : Adr}
theorem atI_p2 {ps : List Pr} {k : Int} {j : Nat} (e : k = (j : Int)) (h : j < ps.length) : atI (ps.map pr2) k = some (pr2 ps[j]) := by
  rw [atI_mk (xs := ps) pr2 (by omega) (by omega), e, Int.toNat_natCast]
  simp [h]
noncomputable def wOrder : DW := fun ds Q _ => ∃ qs vs : List Rat, ds = [.list (qs.map fr), .list (vs.map fr)] ∧ qs.length = vs.length ∧ qs.length ≤ 60 ∧ (∀ q ∈ qs, Ok q) ∧ ∀ ps : List Pr, UpP ps → ps.Perm (qs.zip vs) → Q (.own (ps.map pr2))
theorem ok_in_order (T : Txt K mg A) : FnOk P w K mg base (CXE P w) 2 A.a_in_order A.d_in_order ["some", "weights"] (spW K wOrder) := by
  have G_is_less := ok_is_less (P := P) (w := w) (base := base) T
  refine okW T.F_in_order sc_in_order (fun ds Q E h => ?_) (fun cdv Ar outer s H E hr => ?_)
  · obtain ⟨_, _, rfl, _⟩ := h; rfl
  refine ⟨_, (pss_cons (ps_set (i := 2) sc_in_order.nd rfl (Or.inl rfl) (pe_lst pa_nil))
      (pss_cons (ps_for PassesOwn.leaving rfl (pi_zip (K := K) rfl rfl T.n_zip (pa_cons (pv 0) (pa_cons (pv 1) pa_nil))) (pgtK (K := K) (n := 2) rfl rfl (pgs_cons (pg_name (i := 3) sc_in_order.nd rfl (Or.inr rfl)) (pgs_cons (pg_name (i := 4) sc_in_order.nd rfl (Or.inl rfl)) pgs_nil)))
        (pss_cons (ps_set (i := 5) sc_in_order.nd rfl (Or.inl rfl) (pe_callB (lenK (K := K) rfl) rfl T.n_len PySem.boot_len (pa_cons (pe_lc (cap := [none, some 3]) (NC := ["pair", "one"]) rfl ⟨rfl, rfl, by decide +kernel, by decide +kernel, ⟨⟨_, rfl, rfl, rfl, rfl, rfl⟩, trivial⟩, (List.forall_mem_cons.2 ⟨rfl, (fun _ h => nomatch h)⟩), rfl⟩ (pilK (K := K) rfl (pv 2)) (fun _ _ _ _ => (pg_name (i := 0) (show List.Nodup (["pair", "one"] : List Str) by decide) rfl (Or.inl rfl))) (fun _ _ _ _ => (pts_one (pt_val (pe_call G_is_less (hr.mono (by decide)) rfl T.m_is_less T.F_is_less.kp T.b_is_less .nil passE0 (pa_cons (pe_ix (ixtK (K := K) rfl) (pv 0) pe_int (fun _ _ => rfl)) (pa_cons (pv 1) pa_nil)))))) (fun _ _ _ _ => (pv 0))) pa_nil)))
      (pss_one (ps_expr (pe_bm PySem.F.plainAttrs_list PySem.F.slot_list_insert PySem.F.type_list_insert mt_insert (pv 2) (pa_cons (pv 5) (pa_cons (pe_tup (pa_cons (pv 3) (pa_cons (pv 4) pa_nil))) pa_nil)))))))
      (pss_one (ps_ret (pv 2))))), _, (sv_seq (sv_setO 2 (ov_lst ae_nil (by decide)))
      (sv_seq (sv_for (is_zip (ev_var 0) (ev_var 1)) (gv_tup (gs_cons (gv_name 3) (gs_cons (gv_name 4) gs_nil)))
        (sv_seq (sv_asg (ev_cb rb_len (av_cons (bv_ev (ev_ov (ov_lc (ie_list (lv_var 2)) (gv_name 0) (tv_b (bv_ev (ev_call0 (av_cons (bv_ev (ev_ixk 0 (ev_var 0))) (av_cons (bv_var 1) av_nil))))) (ev_var 0) (by decide) (by decide)))) av_nil)) (gv_name 5))
      (sv_ins 2 (bv_var 5) (ev_tup (ae_cons (ev_var 3) (ae_cons (ev_var 4) ae_nil)) (by decide)))))
      (sv_retV 2))), ?_⟩
  rintro ds Q X ⟨qs, vs, rfl, hl, n60, ho, k⟩
  have zl : (qs.zip vs).length ≤ 60 := by rw [List.length_zip]; omega
  have hz : ∀ z ∈ qs.zip vs, Ok z.1 := fun z h => ho _ (List.of_mem_zip (a := z.1) (b := z.2) h).1
  walk_at "s"
  refine seq_mk (for_map (fun z : Pr => PyData.tuple [fr z.1, fr z.2]) (qs.zip vs) (fun Q h => by
      walk_at "d"
      rw [pairD_map]; exact h)
    (fun i δ => ∃ (ps : List Pr) (t1 t2 t3 : Option Sl), δ = [some (.dat (.list (qs.map fr))), some (.dat (.list (vs.map fr))), some (.own (ps.map pr2)), t1, t2, t3] ∧ UpP ps ∧ ps.Perm ((qs.zip vs).take i))
    ⟨[], _, _, _, rfl, List.Pairwise.nil, .nil⟩ ?_ ?_)
  · rintro i z δ hi ⟨ps, t1, t2, t3, rfl, up, pm⟩
    have pl : ps.length ≤ 60 := by have := pm.length_eq; rw [List.length_take] at this; omega
    have po : ∀ x ∈ ps, Ok x.1 := fun x hx => hz x (List.mem_of_mem_take (pm.mem_iff.mp hx))
    have oz := hz z (List.mem_of_getElem? hi)
    obtain ⟨h1, h2, h3⟩ := upP_ins up z
    have pm2 : (ps.take (cntP ps z.1) ++ z :: ps.drop (cntP ps z.1)).Perm ((qs.zip vs).take (i + 1)) := by
      rw [take_snoc hi]
      exact h3.trans (pm.append_right [z])
    walk_at "s"
    refine lc_map pr2 pr2 (fun x : Pr => if x.1 < z.1 then [x] else []) ps (by omega) (fun Q h => h) (fun x h N acc hN => ?_) ?_
    · walk_at "d"
      refine ⟨x.1, z.1, rfl, po x h, oz, ?_⟩
      walk_at "d"
      by_cases c : x.1 < z.1
      · rw [if_pos c]
        rw [if_pos c] at hN
        exact hN
      · rw [if_neg c]
        rw [if_neg c] at hN
        simpa using hN
    have ec : ((ps.flatMap fun x : Pr => if x.1 < z.1 then [x] else []).map pr2).length = cntP ps z.1 := by rw [List.length_map]; rfl
    generalize (ps.flatMap fun x : Pr => if x.1 < z.1 then [x] else []) = L at *
    walk_at "d"
    rw [List.length_map] at ec
    rw [ec]
    have ef : List.take (cntP ps z.1) (ps.map pr2) ++ PyData.tuple [fr z.1, fr z.2] :: List.drop (cntP ps z.1) (ps.map pr2) = (ps.take (cntP ps z.1) ++ z :: ps.drop (cntP ps z.1)).map pr2 := by
      rw [List.map_append, List.map_cons, List.map_take, List.map_drop]
      rfl
    rw [Int.toNat_natCast, ef]
    exact ⟨by omega, by omega, by omega, _, _, _, _, rfl, h2, pm2⟩
  · rintro δ ⟨ps, t1, t2, t3, rfl, up, pm⟩
    walk_at "d"
    rw [List.take_of_length_le (Nat.le_refl _)] at pm
    exact k ps up pm
theorem tot_pos : ∀ {a : List Rat}, a ≠ [] → (∀ q ∈ a, 0 < q) → 0 < tot a
  | [], h, _ => absurd rfl h
  | x :: a, _, h => by
    have h1 := h x List.mem_cons_self
    have h2 := tot_nn (a := a) fun q hq => by have := h q (List.mem_cons_of_mem _ hq); grind
    simp only [tot]
    grind
noncomputable def wMiddle : DW := fun ds Q _ => ∃ qs vs : List Rat, ds = [.list (qs.map fr), .list (vs.map fr)] ∧ qs.length = vs.length ∧ 1 ≤ qs.length ∧ qs.length ≤ 60 ∧ (∀ q ∈ qs, Ok q) ∧ (∀ v ∈ vs, 0 < v ∧ Cm 1 (10 ^ 120) v) ∧ ∀ x : Rat, Mid (qs.zip vs) x → Q (.dat (fr x))
theorem ok_middle_of (T : Txt K mg A) : FnOk P w K mg base (CXE P w) 4 A.a_middle_of A.d_middle_of ["some", "weights"] (spW K wMiddle) := by
  have G_is_less := ok_is_less (P := P) (w := w) (base := base) T
  have G_in_order := ok_in_order (P := P) (w := w) (base := base) T
  have G_total_of := ok_total_of (P := P) (w := w) (base := base) T
  have G_plus := ok_plus (P := P) (w := w) (base := base) T
  refine okW T.F_middle_of sc_middle_of (fun ds Q E h => ?_) (fun cdv Ar outer s H E hr => ?_)
  · obtain ⟨_, _, rfl, _⟩ := h; rfl
  refine ⟨_, (pss_cons (ps_set (i := 2) sc_middle_of.nd rfl (Or.inl rfl) (pe_call G_in_order (hr.mono (by decide)) rfl T.m_in_order T.F_in_order.kp T.b_in_order .nil passE0 (pa_cons (pv 0) (pa_cons (pv 1) pa_nil))))
      (pss_cons (ps_set (i := 3) sc_middle_of.nd rfl (Or.inl rfl) (pe_call G_total_of (hr.mono (by decide)) rfl T.m_total_of T.F_total_of.kp T.b_total_of .nil passE0 (pa_cons (pv 1) pa_nil)))
      (pss_cons (ps_set (i := 4) sc_middle_of.nd rfl (Or.inl rfl) pe_int)
      (pss_cons (ps_set (i := 5) sc_middle_of.nd rfl (Or.inl rfl) (pe_ix (ixtK (K := K) rfl) (pe_ix (ixlK (K := K) rfl) (pv 2) pe_int (fun _ _ => rfl)) pe_int (fun _ _ => rfl)))
      (pss_cons (ps_while PassesOwn.leaving (pt_val (pe_call G_is_less (hr.mono (by decide)) rfl T.m_is_less T.F_is_less.kp T.b_is_less .nil passE0 (pa_cons (pe_call G_plus (hr.mono (by decide)) rfl T.m_plus T.F_plus.kp T.b_plus .nil passE0 (pa_cons (pv 5) (pa_cons (pv 5) pa_nil))) (pa_cons (pv 3) pa_nil)))) (pss_cons (ps_set (i := 4) sc_middle_of.nd rfl (Or.inl rfl) (pe_op op_add (pv 4) pe_int))
      (pss_one (ps_set (i := 5) sc_middle_of.nd rfl (Or.inl rfl) (pe_call G_plus (hr.mono (by decide)) rfl T.m_plus T.F_plus.kp T.b_plus .nil passE0 (pa_cons (pv 5) (pa_cons (pe_ix (ixtK (K := K) rfl) (pe_ix (ixlK (K := K) rfl) (pv 2) (pv 4) (fun _ _ => rfl)) pe_int (fun _ _ => rfl)) pa_nil)))))))
      (pss_one (ps_ret (pe_ix (ixtK (K := K) rfl) (pe_ix (ixlK (K := K) rfl) (pv 2) (pv 4) (fun _ _ => rfl)) pe_int (fun _ _ => rfl))))))))), _, (sv_seq (sv_setO 2 (ov_call0 (av_cons (bv_var 0) (av_cons (bv_var 1) av_nil))))
      (sv_seq (sv_asg (ev_call0 (av_cons (bv_var 1) av_nil)) (gv_name 3))
      (sv_seq (sv_asg ev_int (gv_name 4))
      (sv_seq (sv_asg (ev_ixk 1 (ev_ixl (lv_var 2) (bv_ev ev_int))) (gv_name 5))
      (sv_seq (sv_while (tv_b (bv_ev (ev_call0 (av_cons (bv_ev (ev_call0 (av_cons (bv_var 5) (av_cons (bv_var 5) av_nil)))) (av_cons (bv_var 3) av_nil))))) (sv_seq (sv_asg (ev_op ro_i0 (bv_var 4) (bv_ev ev_int)) (gv_name 4))
      (sv_asg (ev_call0 (av_cons (bv_var 5) (av_cons (bv_ev (ev_ixk 1 (ev_ixl (lv_var 2) (bv_var 4)))) av_nil))) (gv_name 5))))
      (sv_ret (bv_ev (ev_ixk 0 (ev_ixl (lv_var 2) (bv_var 4)))))))))), ?_⟩
  rintro ds Q X ⟨qs, vs, rfl, hl, n1, n60, ho, hv, k⟩
  have cdg : ∀ {l : List Rat}, l.length ≤ 60 → (∀ v ∈ l, Cm 1 (10 ^ 120) v) → Dg 123 (tot l) := fun {l} h1 h2 => by
    have h := Cm.tot (qs := l) (L := 1) (B := 10 ^ 120) h2
    refine h.dg (by decide) (l := 0) (by decide) (b := 122) ?_
    exact Nat.le_trans (Nat.mul_le_mul_right _ h1) (by decide +kernel)
  walk_at "s"
  refine ⟨qs, vs, rfl, hl, n60, ho, fun ps up pm => ?_⟩
  have pl : ps.length = qs.length := by rw [pm.length_eq, List.length_zip]; omega
  have zs2 : (qs.zip vs).map (·.2) = vs := List.map_snd_zip (by omega)
  have p2 : (ps.map (·.2)).Perm vs := by rw [← zs2]; exact pm.map _
  have pv : ∀ v ∈ ps.map (·.2), 0 < v ∧ Cm 1 (10 ^ 120) v := fun v h => hv v (p2.mem_iff.mp h)
  have sdg : ∀ s, Dg 123 (tot ((ps.take s).map (·.2))) := fun s => cdg (by rw [List.length_map, List.length_take]; omega) fun v h => by
    rw [List.map_take] at h
    exact (pv v (List.mem_of_mem_take h)).2
  have wdg : Dg 123 (tot vs) := cdg (by omega) fun v h => (hv v h).2
  have wpos : 0 < tot vs := tot_pos (fun e => by rw [e, List.length_nil] at hl; omega) fun v h => (hv v h).1
  walk_at "d"
  refine ⟨prs_flat _, ?_⟩
  walk_at "s"
  refine ⟨vs, rfl, fun v h => dgOk ((hv v h).2.dg (by decide) (l := 0) (by decide) (b := 120) (Nat.le_refl _)) (by decide), fun i => dgOk (cdg (by rw [List.length_take]; omega) fun v h => (hv v (List.mem_of_mem_take h)).2) (by decide), ?_⟩
  walk_at "s"
  walk_at "s"
  refine ⟨_, atI_p2 (j := 0) rfl (by omega), ?_⟩
  walk_at "s"
  have s1 : tot ((ps.take 1).map (·.2)) = ps[0].2 := by
    rw [take_snoc (List.getElem?_eq_getElem (show 0 < ps.length by omega))]
    simp [tot, Rat.add_zero]
  refine ⟨fun m δ => ∃ s : Nat, s < ps.length ∧ m = ps.length - s ∧ δ = [some (.dat (.list (qs.map fr))), some (.dat (.list (vs.map fr))), some (.own (ps.map pr2)), some (.dat (fr (tot vs))), some (.dat (.int (s : Int))), some (.dat (fr (tot ((ps.take (s + 1)).map (·.2)))))] ∧ tot ((ps.take s).map (·.2)) + tot ((ps.take s).map (·.2)) < tot vs, ⟨_, 0, by omega, rfl, by rw [s1]; rfl, by simpa [tot, Rat.add_zero] using wpos⟩, ?_⟩
  rintro m δ ⟨s, hs, rfl, rfl, hlt⟩
  have o1 := dgOk (sdg (s + 1)) (by decide)
  have d2 : Dg 247 (tot ((ps.take (s + 1)).map (·.2)) + tot ((ps.take (s + 1)).map (·.2))) := (sdg (s + 1)).add (sdg (s + 1))
  walk_at "d"
  refine ⟨_, _, rfl, o1, o1, ?_⟩
  walk_at "d"
  refine ⟨_, _, rfl, dgOk d2 (by decide), dgOk wdg (by decide), ?_⟩
  walk_at "d"
  refine ite2 (fun c => ?_) (fun c => ?_)
  · have hs2 : s + 1 < ps.length := Decidable.not_not.mp fun z => by
      rw [List.take_of_length_le (by omega), tot_perm p2] at c
      grind
    walk_at "s"
    refine ⟨_, atI_p2 (j := s + 1) (by omega) hs2, ?_⟩
    have ov : Ok ps[s + 1].2 := dgOk ((pv _ (List.mem_map.mpr ⟨_, List.getElem_mem hs2, rfl⟩)).2.dg (by decide) (l := 0) (by decide) (b := 120) (Nat.le_refl _)) (by decide)
    refine ⟨_, _, rfl, o1, ov, ?_⟩
    walk_at "d"
    refine ⟨ps.length - (s + 1), by omega, s + 1, hs2, rfl, ?_, c⟩
    rw [take_snoc (List.getElem?_eq_getElem hs2), List.map_append, tot_app]
    simp [tot, Rat.add_zero]
  · walk_at "d"
    refine ⟨_, atI_p2 (j := s) rfl hs, ?_⟩
    refine k _ (mid_of up pm (fun z hz => ?_) hs ?_ ?_)
    · have := (hv z.2 (List.of_mem_zip (a := z.1) (b := z.2) hz).2).1
      grind
    · rw [zs2]; exact hlt
    · rw [zs2]; exact Rat.not_lt.mp c
end
noncomputable def half0 : Rat := Rat.divInt 1 2
noncomputable def hgts (ms : List Mk) : List Rat := ms.map fun m => m.2.1
noncomputable def wgts (ms : List Mk) : List Rat := ms.map fun m => (m.2.2 : Rat)
structure LevelOk (kd : Str) (ms : List Mk) (x : Rat) : Prop where
  far : kd = "far" → ∃ a b, a ∈ hgts ms ∧ (∀ r ∈ hgts ms, r ≤ a) ∧ b ∈ hgts ms ∧ (∀ r ∈ hgts ms, b ≤ r) ∧ x = half0 * (a + b)
  sum : kd = "sum" → Mid ((hgts ms).zip (wgts ms)) x
  sq : kd = "square" → x = tot (List.zipWith (fun v h => v * h) (wgts ms) (hgts ms)) / tot (wgts ms)
section
variable {P : Program} {w : World} {K : PySem.W.Frag} {mg : Str → Option Value} {base : Heap} {A : Adr}
noncomputable def wLevel : DW := fun ds Q _ => ∃ (kd : Str) (ms : List Mk) (L : Nat), ds = [.str kd, .list (ms.map mk3)] ∧ kd ∈ kdsL ∧ 1 ≤ ms.length ∧ ms.length ≤ 60 ∧ 0 < L ∧ L ≤ 10 ^ 100 ∧ (∀ m ∈ ms, Cm L (10 ^ 100) m.2.1) ∧ (∀ m ∈ ms, 1 ≤ m.2.2 ∧ m.2.2 ≤ 10 ^ 100) ∧ ∀ x, LevelOk kd ms x → Q (.dat (fr x))
theorem ok_least_level (T : Txt K mg A) : FnOk P w K mg base (CXE P w) 5 A.a_least_level A.d_least_level ["kind", "marks"] (spW K wLevel) := by
  have G_product := ok_product (P := P) (w := w) (base := base) T
  have G_plus := ok_plus (P := P) (w := w) (base := base) T
  have G_greatest_of := ok_greatest_of (P := P) (w := w) (base := base) T
  have G_least_of := ok_least_of (P := P) (w := w) (base := base) T
  have G_middle_of := ok_middle_of (P := P) (w := w) (base := base) T
  have G_quotient := ok_quotient (P := P) (w := w) (base := base) T
  have G_total_of := ok_total_of (P := P) (w := w) (base := base) T
  refine okW T.F_least_level sc_least_level (fun ds Q E h => ?_) (fun cdv Ar outer s H E hr => ?_)
  · obtain ⟨_, _, _, rfl, _⟩ := h; rfl
  refine ⟨_, (pss_cons (ps_setLC (i := 2) (cap := [none]) (NC := ["mark"]) sc_least_level.nd rfl rfl rfl ⟨rfl, rfl, by decide +kernel, by decide +kernel, trivial, (fun _ h => nomatch h), rfl⟩ (pilK (K := K) rfl (pv 1)) (fun _ _ _ _ => (pg_name (i := 0) (show List.Nodup (["mark"] : List Str) by decide) rfl (Or.inl rfl))) (fun _ _ _ _ => pts_nil) (fun _ _ _ _ => (pe_ix (ixtK (K := K) rfl) (pv 0) pe_int (fun _ _ => rfl))))
      (pss_cons (ps_if (pt_cmpR op_eq (pv 0) pe_str (nomark _)) (pss_one (ps_ret (pe_call G_product (hr.mono (by decide)) rfl T.m_product T.F_product.kp T.b_product .nil passE0 (pa_cons (pe_tup (pa_cons pe_int (pa_cons pe_int pa_nil))) (pa_cons (pe_call G_plus (hr.mono (by decide)) rfl T.m_plus T.F_plus.kp T.b_plus .nil passE0 (pa_cons (pe_call G_greatest_of (hr.mono (by decide)) rfl T.m_greatest_of T.F_greatest_of.kp T.b_greatest_of .nil passE0 (pa_cons (pv 2) pa_nil)) (pa_cons (pe_call G_least_of (hr.mono (by decide)) rfl T.m_least_of T.F_least_of.kp T.b_least_of .nil passE0 (pa_cons (pv 2) pa_nil)) pa_nil))) pa_nil))))) pss_nil)
      (pss_cons (ps_setLC (i := 3) (cap := [none]) (NC := ["mark"]) sc_least_level.nd rfl rfl rfl ⟨rfl, rfl, by decide +kernel, by decide +kernel, trivial, (fun _ h => nomatch h), rfl⟩ (pilK (K := K) rfl (pv 1)) (fun _ _ _ _ => (pg_name (i := 0) (show List.Nodup (["mark"] : List Str) by decide) rfl (Or.inl rfl))) (fun _ _ _ _ => pts_nil) (fun _ _ _ _ => (pe_tup (pa_cons (pe_ix (ixtK (K := K) rfl) (pv 0) pe_int (fun _ _ => rfl)) (pa_cons pe_int pa_nil)))))
      (pss_cons (ps_if (pt_cmpR op_eq (pv 0) pe_str (nomark _)) (pss_one (ps_ret (pe_call G_middle_of (hr.mono (by decide)) rfl T.m_middle_of T.F_middle_of.kp T.b_middle_of .nil passE0 (pa_cons (pv 2) (pa_cons (pv 3) pa_nil))))) pss_nil)
      (pss_cons (ps_setLC (i := 4) (cap := [none, none]) (NC := ["weight", "height"]) sc_least_level.nd rfl rfl rfl ⟨rfl, rfl, by decide +kernel, by decide +kernel, trivial, (fun _ h => nomatch h), rfl⟩ (pi_zip (K := K) rfl rfl T.n_zip (pa_cons (pv 3) (pa_cons (pv 2) pa_nil))) (fun _ _ _ _ => (pgtK (K := K) (n := 2) rfl rfl (pgs_cons (pg_name (i := 0) (show List.Nodup (["weight", "height"] : List Str) by decide) rfl (Or.inl rfl)) (pgs_cons (pg_name (i := 1) (show List.Nodup (["weight", "height"] : List Str) by decide) rfl (Or.inl rfl)) pgs_nil)))) (fun _ _ _ _ => pts_nil) (fun _ _ _ _ => (pe_call G_product (hr.mono (by decide)) rfl T.m_product T.F_product.kp T.b_product .nil passE0 (pa_cons (pv 0) (pa_cons (pv 1) pa_nil)))))
      (pss_one (ps_ret (pe_call G_quotient (hr.mono (by decide)) rfl T.m_quotient T.F_quotient.kp T.b_quotient .nil passE0 (pa_cons (pe_call G_total_of (hr.mono (by decide)) rfl T.m_total_of T.F_total_of.kp T.b_total_of .nil passE0 (pa_cons (pv 4) pa_nil)) (pa_cons (pe_call G_total_of (hr.mono (by decide)) rfl T.m_total_of T.F_total_of.kp T.b_total_of .nil passE0 (pa_cons (pv 3) pa_nil)) pa_nil)))))))))), _, (sv_seq (sv_setO 2 (ov_lc (ie_list (lv_var 1)) (gv_name 0) tv_yes (ev_ixk 1 (ev_var 0)) (by decide) (by decide)))
      (sv_seq (sv_if (tv_test (bv_ev (ev_op ro_eq (bv_var 0) (bv_ev ev_str)))) (sv_ret (bv_ev (ev_call0 (av_cons (bv_ev (ev_tup (ae_cons ev_int (ae_cons ev_int ae_nil)) (by decide))) (av_cons (bv_ev (ev_call0 (av_cons (bv_ev (ev_call0 (av_cons (bv_var 2) av_nil))) (av_cons (bv_ev (ev_call0 (av_cons (bv_var 2) av_nil))) av_nil)))) av_nil))))) sv_next)
      (sv_seq (sv_setO 3 (ov_lc (ie_list (lv_var 1)) (gv_name 0) tv_yes (ev_tup (ae_cons (ev_ixk 2 (ev_var 0)) (ae_cons ev_int ae_nil)) (by decide)) (by decide) (by decide)))
      (sv_seq (sv_if (tv_test (bv_ev (ev_op ro_eq (bv_var 0) (bv_ev ev_str)))) (sv_ret (bv_ev (ev_call0 (av_cons (bv_var 2) (av_cons (bv_var 3) av_nil))))) sv_next)
      (sv_seq (sv_setO 4 (ov_lc (ie_zip (lv_var 3) (lv_var 2)) (gv_tup (gs_cons (gv_name 0) (gs_cons (gv_name 1) gs_nil))) tv_yes (ev_call0 (av_cons (bv_var 0) (av_cons (bv_var 1) av_nil))) (by decide) (by decide)))
      (sv_ret (bv_ev (ev_call0 (av_cons (bv_ev (ev_call0 (av_cons (bv_var 4) av_nil))) (av_cons (bv_ev (ev_call0 (av_cons (bv_var 3) av_nil))) av_nil)))))))))), ?_⟩
  rintro ds Q X ⟨kd, ms, L, rfl, hkd, n1, n60, L0, L1, hc, hw, k⟩
  walk_at "s"
  refine lc_map mk3 fr (fun m : Mk => [m.2.1]) ms (by omega) (fun Q h => h) (fun m h N acc hN => ?_) ?_
  · walk_at "d"
    exact hN
  rw [flat_single]
  obtain ⟨hs, hhs⟩ : ∃ hs, hgts ms = hs := ⟨_, rfl⟩
  rw [show ms.map (fun m : Mk => m.2.1) = hs from hhs]
  have hl : hs.length = ms.length := by rw [← hhs, hgts, List.length_map]
  have hcm : ∀ q ∈ hs, Cm L (10 ^ 100) q := fun q hq => by
    rw [← hhs] at hq
    obtain ⟨m, hm, rfl⟩ := List.mem_map.mp hq
    exact hc m hm
  have hdg : ∀ q ∈ hs, Dg 201 q := fun q hq => (hcm q hq).dg L0 L1 (b := 100) (Nat.le_refl _)
  have hok : ∀ q ∈ hs, Ok q := fun q hq => dgOk (hdg q hq) (by decide)
  walk_at "s"
  refine ite2 (fun c => ?_) (fun c => ?_)
  · have ek : kd = "far" := c
    subst ek
    walk_at "d"
    have hne : hs ≠ [] := fun e => by rw [e, List.length_nil] at hl; omega
    refine ⟨hs, rfl, hok, fun e => hne e, fun a ha hla => ⟨rfl, ?_⟩⟩
    refine ⟨hs, rfl, hok, fun e => hne e, fun b hb hlb => ⟨rfl, ?_⟩⟩
    refine ⟨a, b, rfl, hok a ha, hok b hb, rfl, ?_⟩
    have dab : Dg 403 (a + b) := (hdg a ha).add (hdg b hb)
    have dh : Dg 1 half0 := ⟨by decide +kernel, by decide +kernel⟩
    refine ⟨half0, a + b, rfl, dgOk dh (by decide), dgOk dab (by decide), rfl, ?_⟩
    refine k _ ⟨fun _ => ⟨a, b, ?_, ?_, ?_, ?_, rfl⟩, fun h => absurd h (by decide), fun h => absurd h (by decide)⟩ <;> rw [hhs] <;> assumption
  have nk : kd ≠ "far" := c
  walk_at "s"
  refine lc_map mk3 fr (fun m : Mk => [(m.2.2 : Rat)]) ms (by omega) (fun Q h => h) (fun m h N acc hN => ?_) ?_
  · walk_at "d"
    exact hN
  rw [flat_single]
  obtain ⟨vs, hvs⟩ : ∃ vs, wgts ms = vs := ⟨_, rfl⟩
  rw [show ms.map (fun m : Mk => (m.2.2 : Rat)) = vs from hvs]
  have vl : vs.length = ms.length := by rw [← hvs, wgts, List.length_map]
  have hv : ∀ v ∈ vs, 0 < v ∧ Cm 1 (10 ^ 120) v := fun v h => by
    rw [← hvs] at h
    obtain ⟨m, hm, rfl⟩ := List.mem_map.mp h
    have h1 := hw m hm
    refine ⟨Rat.intCast_pos.mpr (by omega), Cm.int ?_⟩
    have : (10 : Nat) ^ 100 ≤ 10 ^ 120 := by decide +kernel
    omega
  walk_at "s"
  refine ite2 (fun c => ?_) (fun c => ?_)
  · have ek : kd = "sum" := c
    subst ek
    walk_at "d"
    refine ⟨hs, vs, rfl, by omega, by omega, by omega, hok, hv, fun x hx => ?_⟩
    walk_at "d"
    exact k x ⟨fun h => absurd h (by decide), fun _ => by rw [hhs, hvs]; exact hx, fun h => absurd h (by decide)⟩
  have nk2 : kd ≠ "sum" := c
  walk_at "s"
  have v0 : ∀ v ∈ vs, Cm 1 (10 ^ 100) v := fun v h => by
    rw [← hvs] at h
    obtain ⟨m, hm, rfl⟩ := List.mem_map.mp h
    have h1 := hw m hm
    exact Cm.int (by omega)
  have vok : ∀ v ∈ vs, Ok v := fun v h => dgOk ((v0 v h).dg (by decide) (l := 0) (by decide) (b := 100) (Nat.le_refl _)) (by decide)
  refine lc_map (fun p : Rat × Rat => PyData.tuple [fr p.1, fr p.2]) fr (fun p : Rat × Rat => [p.1 * p.2]) (vs.zip hs) (by rw [List.length_zip]; omega) (fun Q h => by
      walk_at "d"
      rw [pairD_map]; exact h) (fun p hp N acc hN => ?_) ?_
  · have := zip_all vok hok p hp
    walk_at "d"
    refine ⟨p.1, p.2, rfl, this.1, this.2, ?_⟩
    walk_at "d"
    exact hN
  rw [flat_single, zip_map (fun a b : Rat => a * b)]
  obtain ⟨us, hus⟩ : ∃ us, List.zipWith (fun a b : Rat => a * b) vs hs = us := ⟨_, rfl⟩
  rw [hus]
  have ul : us.length ≤ 60 := by rw [← hus, List.length_zipWith]; omega
  have uc : ∀ u ∈ us, Cm (1 * L) (10 ^ 100 * 10 ^ 100) u := fun u hu => by
    rw [← hus, ← zip_map] at hu
    obtain ⟨p, hp, rfl⟩ := List.mem_map.mp hu
    have hz := List.of_mem_zip (a := p.1) (b := p.2) hp
    exact (v0 _ hz.1).mul (hcm _ hz.2)
  have ud : ∀ i, Dg 303 (tot (us.take i)) := fun i => by
    have h := Cm.tot (qs := us.take i) fun u hu => uc u (List.mem_of_mem_take hu)
    refine h.dg (l := 100) (by omega) (by omega) (b := 202) ?_
    exact Nat.le_trans (Nat.mul_le_mul_right _ (show _ ≤ 60 by rw [List.length_take]; omega)) (by decide +kernel)
  have wd : ∀ i, Dg 103 (tot (vs.take i)) := fun i => by
    have h := Cm.tot (qs := vs.take i) fun u hu => v0 u (List.mem_of_mem_take hu)
    refine h.dg (l := 0) (by decide) (by decide) (b := 102) ?_
    exact Nat.le_trans (Nat.mul_le_mul_right _ (show _ ≤ 60 by rw [List.length_take]; omega)) (by decide +kernel)
  have ude := ud us.length
  have wde := wd vs.length
  rw [List.take_of_length_le (Nat.le_refl _)] at ude wde
  have wpos : 0 < tot vs := tot_pos (fun e => by rw [e, List.length_nil] at vl; omega) fun v h => (hv v h).1
  refine ⟨us, rfl, fun u hu => dgOk ((uc u hu).dg (l := 100) (by omega) (by omega) (b := 200) (by decide +kernel)) (by decide), fun i => dgOk (ud i) (by decide), rfl, ?_⟩
  refine ⟨vs, rfl, vok, fun i => dgOk (wd i) (by decide), rfl, ?_⟩
  refine ⟨tot us, tot vs, rfl, dgOk ude (by decide), dgOk wde (by decide), fun e => by rw [e] at wpos; exact absurd wpos (by decide), fun _ => ⟨rfl, ?_⟩⟩
  exact k _ ⟨fun h => absurd h nk, fun h => absurd h nk2, fun _ => by rw [hhs, hvs, hus]⟩
end
noncomputable def wsum : List Mk → Int
  | [] => 0
  | m :: ms => m.2.2 + wsum ms
theorem wsum_tot : ∀ ms : List Mk, tot (wgts ms) = (wsum ms : Rat)
  | [] => rfl
  | m :: ms => by
    have := wsum_tot ms
    show (m.2.2 : Rat) + tot (wgts ms) = ((m.2.2 + wsum ms : Int) : Rat)
    rw [this, Rat.intCast_add]
theorem wsum_pos : ∀ {ms : List Mk}, ms ≠ [] → (∀ m ∈ ms, 1 ≤ m.2.2) → 1 ≤ wsum ms
  | [], h, _ => absurd rfl h
  | [m], _, h => by have := h m List.mem_cons_self; simp only [wsum]; omega
  | m :: n :: ms, _, h => by
    have h1 := h m List.mem_cons_self
    have h2 := wsum_pos (ms := n :: ms) (by simp) fun x hx => h x (List.mem_cons_of_mem _ hx)
    rw [wsum]; omega
theorem wsum_le {W : Int} : ∀ {ms : List Mk}, (∀ m ∈ ms, m.2.2 ≤ W) → wsum ms ≤ ms.length * W
  | [], _ => by simp [wsum]
  | m :: ms, h => by
    have h1 := h m List.mem_cons_self
    have h2 := wsum_le (ms := ms) fun x hx => h x (List.mem_cons_of_mem _ hx)
    rw [wsum, List.length_cons]
    have : ((ms.length + 1 : Nat) : Int) * W = ms.length * W + W := by rw [Int.natCast_add, Int.add_mul]; simp
    omega
noncomputable def umix (ms : List Mk) : Rat := tot (List.zipWith (fun v h => v * h) (wgts ms) (hgts ms))
theorem umix_cons (m : Mk) (ms : List Mk) : umix (m :: ms) = (m.2.2 : Rat) * m.2.1 + umix ms := rfl
theorem umix_bd {B : Rat} : ∀ {ms : List Mk}, (∀ m ∈ ms, -B ≤ m.2.1 ∧ m.2.1 ≤ B) → (∀ m ∈ ms, 1 ≤ m.2.2) → -(B * (wsum ms : Rat)) ≤ umix ms ∧ umix ms ≤ B * (wsum ms : Rat)
  | [], _, _ => by
    have e : umix [] = 0 := rfl
    have e2 : ((wsum [] : Int) : Rat) = 0 := rfl
    rw [e, e2, Rat.mul_zero]
    exact ⟨by decide, by decide⟩
  | m :: ms, h, hw => by
    have h1 := h m List.mem_cons_self
    have w1 := hw m List.mem_cons_self
    have h2 := umix_bd (B := B) (ms := ms) (fun x hx => h x (List.mem_cons_of_mem _ hx)) fun x hx => hw x (List.mem_cons_of_mem _ hx)
    have w0 : (0 : Rat) ≤ (m.2.2 : Rat) := Rat.intCast_nonneg.mpr (by omega)
    have a := Rat.mul_nonneg w0 (show 0 ≤ B - m.2.1 by grind)
    have b := Rat.mul_nonneg w0 (show 0 ≤ B + m.2.1 by grind)
    rw [umix_cons, wsum, Rat.intCast_add]
    constructor <;> grind
theorem umix_cm {L B : Nat} : ∀ {ms : List Mk}, (∀ m ∈ ms, Cm L B m.2.1) → (umix ms).den ∣ L
  | [], _ => ⟨L, (Nat.one_mul L).symm⟩
  | m :: ms, h => by
    have h1 : (((m.2.2 : Int) : Rat) * m.2.1).den ∣ 1 * L := ((Cm.int (i := m.2.2) (Nat.le_refl _)).mul (h m List.mem_cons_self)).d
    have h2 := umix_cm (ms := ms) fun x hx => h x (List.mem_cons_of_mem _ hx)
    rw [Nat.one_mul] at h1
    rw [umix_cons]
    have c1 : Cm L ((((m.2.2 : Int) : Rat) * m.2.1).num.natAbs) (((m.2.2 : Int) : Rat) * m.2.1) := Cm.of h1 (Nat.le_mul_of_pos_right _ (Rat.den_pos _))
    have c2 : Cm L (umix ms).num.natAbs (umix ms) := Cm.of h2 (Nat.le_mul_of_pos_right _ (Rat.den_pos _))
    exact (c1.add c2).d
theorem bd_div {x T B : Rat} (hT : 0 < T) (h : x * T ≤ B * T) : x ≤ B := Rat.not_lt.mp fun c => by
  have := Rat.mul_pos (show 0 < x - B by grind) hT
  grind
theorem half0_dbl (m : Rat) : half0 * m + half0 * m = m := by
  have : half0 + half0 = 1 := by decide +kernel
  grind
theorem half_bd {s B : Rat} (h1 : -(B + B) ≤ s) (h2 : s ≤ B + B) : -B ≤ half0 * s ∧ half0 * s ≤ B := by
  have h0 : (0 : Rat) ≤ half0 := by decide +kernel
  have e := half0_dbl B
  have a := Rat.mul_nonneg h0 (show 0 ≤ s + (B + B) by grind)
  have b := Rat.mul_nonneg h0 (show 0 ≤ (B + B) + -s by grind)
  rw [Rat.mul_add, Rat.mul_add, e] at a
  rw [Rat.mul_add, Rat.mul_add, e, Rat.mul_neg] at b
  constructor <;> grind
theorem level_cm {kd : Str} {ms : List Mk} {x : Rat} {L B : Nat} (hk : kd ∈ kdsL) (X : LevelOk kd ms x) (hne : ms ≠ []) (hc : ∀ m ∈ ms, Cm L B m.2.1) (hw : ∀ m ∈ ms, 1 ≤ m.2.2) : Cm (2 * L * (wsum ms).toNat) B x := by
  have hh : ∀ q ∈ hgts ms, Cm L B q := fun q hq => by
    obtain ⟨m, hm, rfl⟩ := List.mem_map.mp hq
    exact hc m hm
  have wp := wsum_pos hne hw
  have dl : L ∣ 2 * L * (wsum ms).toNat := ⟨2 * (wsum ms).toNat, by rw [Nat.mul_comm 2 L, Nat.mul_assoc]⟩
  have hk3 : kd = "far" ∨ kd = "sum" ∨ kd = "square" := by simpa [kdsL] using hk
  rcases hk3 with e | e | e
  · obtain ⟨a, b, ha, _, hb, _, rfl⟩ := X.far e
    have ca := hh a ha
    have cb := hh b hb
    have ch : Cm 2 1 half0 := ⟨by decide +kernel, by decide +kernel, by decide +kernel⟩
    have cx := ch.mul (ca.add cb)
    refine ⟨Nat.dvd_trans cx.d (Nat.dvd_mul_right _ _), ?_, ?_⟩
    · have h1 := ca.lo; have h2 := cb.lo; have h3 := ca.hi; have h4 := cb.hi
      exact (half_bd (by grind) (by grind)).1
    · have h1 := ca.lo; have h2 := cb.lo; have h3 := ca.hi; have h4 := cb.hi
      exact (half_bd (by grind) (by grind)).2
  · obtain ⟨z, hz, rfl⟩ := (X.sum e).mem
    exact (hh _ (List.of_mem_zip (a := z.1) (b := z.2) hz).1).mono dl (Nat.le_refl _)
  · have ex := X.sq e
    have T0 : (0 : Rat) < (wsum ms : Rat) := Rat.intCast_pos.mpr (by omega)
    have ex2 : x * (wsum ms : Rat) = umix ms := by
      rw [ex, wsum_tot, Rat.div_mul_cancel (by grind)]; rfl
    have bd := umix_bd (B := (B : Rat)) (ms := ms) (fun m hm => ⟨(hc m hm).lo, (hc m hm).hi⟩) hw
    rw [← ex2] at bd
    refine ⟨?_, ?_, bd_div T0 bd.2⟩
    · have c1 := umix_cm hc
      have e3 : x = umix ms * Rat.divInt 1 ((wsum ms).toNat : Int) := by
        rw [← ex2, Int.toNat_of_nonneg (by omega)]
        have : (wsum ms : Rat) * Rat.divInt 1 (wsum ms) = 1 := by
          rw [Rat.divInt_eq_div, Rat.div_def]
          show (wsum ms : Rat) * (1 * (wsum ms : Rat)⁻¹) = 1
          rw [Rat.one_mul, Rat.mul_inv_cancel _ (by grind)]
        rw [Rat.mul_assoc, this, Rat.mul_one]
      rw [e3]
      have c2 : Cm L (umix ms).num.natAbs (umix ms) := Cm.of c1 (Nat.le_mul_of_pos_right _ (Rat.den_pos _))
      have c3 : Cm (wsum ms).toNat 1 (Rat.divInt 1 ((wsum ms).toNat : Int)) := Cm.div (by omega) (Nat.dvd_refl _) (by show 1 ≤ _; omega)
      have := (c2.mul c3).d
      exact Nat.dvd_trans this ⟨2, by rw [Nat.mul_comm (L * _) 2, Nat.mul_assoc]⟩
    · have := bd_div (x := -x) (B := (B : Rat)) T0 (by grind)
      grind
noncomputable def cst (zs : List Pr) (b : Rat) : Rat := tot (zs.map fun z => z.2 * absR (z.1 - b))
theorem fsum_cons (p : Pr → Bool) (z : Pr) (zs : List Pr) : fsum p (z :: zs) = (if p z = true then z.2 else 0) + fsum p zs := by
  have e : fsum p (z :: zs) = fsum p [z] + fsum p zs := fsum_app p [z] zs
  rw [e]
  by_cases c : p z = true
  · rw [if_pos c]; simp [fsum, c, tot, Rat.add_zero]
  · rw [if_neg c]; simp [fsum, c, tot]
theorem miss_rep (x : Rat) : ∀ S : List Mk, missR S (List.replicate S.length x) = S.map fun m => m.2.1 - x
  | [] => rfl
  | m :: S => by
    have := miss_rep x S
    unfold missR at *
    simp only [List.length_cons, List.replicate_succ, List.zipWith_cons_cons, List.map_cons, this]
theorem wmiss_rep (x : Rat) : ∀ S : List Mk, wmissR S (List.replicate S.length x) = S.map fun m => (m.2.2 : Rat) * (m.2.1 - x) := fun S => by
  unfold wmissR
  rw [miss_rep]
  induction S with
  | nil => rfl
  | cons m S ih => simp only [List.map_cons, List.zipWith_cons_cons, ih]
structure Lv (Ge Le : List Mk → Rat → Prop) : Prop where
  geMono : ∀ {A a m}, m ≤ a → Ge A a → Ge A m
  leMono : ∀ {A a m}, a ≤ m → Le A a → Le A m
  geAdd : ∀ {A B x}, Ge A x → Ge B x → Ge (A ++ B) x
  leAdd : ∀ {A B x}, Le A x → Le B x → Le (A ++ B) x
  geCut : ∀ {A B x}, Ge (A ++ B) x → ¬ Ge B x → Ge A x
  leCut : ∀ {A B x}, Le (A ++ B) x → ¬ Le A x → Le B x
  gap1 : ∀ {A a m}, A ≠ [] → (∀ z ∈ A, 1 ≤ z.2.2) → Le A a → a < m → ¬ Ge A m
  gap2 : ∀ {A a m}, A ≠ [] → (∀ z ∈ A, 1 ≤ z.2.2) → Ge A a → m < a → ¬ Le A m
structure Blk (Ge Le : List Mk → Rat → Prop) (A : List Mk) (x : Rat) : Prop where
  ne : A ≠ []
  w : ∀ z ∈ A, 1 ≤ z.2.2
  pre : ∀ X Y, A = X ++ Y → X ≠ [] → Ge X x
  suf : ∀ X Y, A = X ++ Y → Y ≠ [] → Le Y x
section
variable {Ge Le : List Mk → Rat → Prop}
theorem Blk.ge {A : List Mk} {x : Rat} (h : Blk Ge Le A x) : Ge A x := h.pre A [] (by simp) h.ne
theorem Blk.le {A : List Mk} {x : Rat} (h : Blk Ge Le A x) : Le A x := h.suf [] A rfl h.ne
theorem blk_one {m : Mk} {x : Rat} (hw : 1 ≤ m.2.2) (h1 : Ge [m] x) (h2 : Le [m] x) : Blk Ge Le [m] x := by
  refine ⟨by simp, fun z hz => by rw [List.mem_singleton.mp hz]; exact hw, fun X Y e hX => ?_, fun X Y e hY => ?_⟩
  · cases X with
    | nil => exact absurd rfl hX
    | cons a X => have := List.cons.inj e; cases X with
      | nil => rw [← this.1]; exact h1
      | cons b X => simp at this
  · cases X with
    | nil => rw [show Y = [m] from e.symm]; exact h2
    | cons a X => have := (List.cons.inj e).2; exact absurd (List.append_eq_nil_iff.mp this.symm).2 hY
theorem blk_join (L : Lv Ge Le) {A B : List Mk} {a b m : Rat} (hA : Blk Ge Le A a) (hB : Blk Ge Le B b) (hab : b < a) (h1 : Ge (A ++ B) m) (h2 : Le (A ++ B) m) : Blk Ge Le (A ++ B) m := by
  have ma : m ≤ a := Rat.not_lt.mp fun c => L.gap1 hA.ne hA.w hA.le c (L.geCut h1 (L.gap1 hB.ne hB.w hB.le (by grind)))
  have mb : b ≤ m := Rat.not_lt.mp fun c => L.gap2 hB.ne hB.w hB.ge c (L.leCut h2 (L.gap2 hA.ne hA.w hA.ge (by grind)))
  refine ⟨by simp [hA.ne], fun z hz => ?_, fun X Y e hX => ?_, fun X Y e hY => ?_⟩
  · rcases List.mem_append.mp hz with h | h
    · exact hA.w z h
    · exact hB.w z h
  · rcases List.append_eq_append_iff.mp e with ⟨c, e1, e2⟩ | ⟨c, e1, e2⟩
    · -- X = A ++ c, B = c ++ Y
      by_cases hY : Y = []
      · have : A ++ B = X := by rw [e, hY, List.append_nil]
        rw [← this]; exact h1
      by_cases hm : b < m
      · refine L.geCut (B := Y) (by rw [← e]; exact h1) (L.gap1 hY (fun z hz => hB.w z (by rw [e2]; exact List.mem_append_right _ hz)) (hB.suf c Y e2 hY) hm)
      · have em : m = b := by grind
        rw [e1]
        by_cases hc : c = []
        · rw [hc, List.append_nil]; exact L.geMono ma hA.ge
        · exact L.geAdd (L.geMono ma hA.ge) (by rw [em]; exact hB.pre c Y e2 hc)
    · exact L.geMono ma (hA.pre X c e1 hX)
  · rcases List.append_eq_append_iff.mp e with ⟨c, e1, e2⟩ | ⟨c, e1, e2⟩
    · exact L.leMono mb (hB.suf c Y e2 hY)
    · -- A = X ++ c, Y = c ++ B
      by_cases hX : X = []
      · have : A ++ B = Y := by rw [e, hX]; rfl
        rw [← this]; exact h2
      by_cases hm : m < a
      · refine L.leCut (A := X) (by rw [← e]; exact h2) (L.gap2 hX (fun z hz => hA.w z (by rw [e1]; exact List.mem_append_left _ hz)) (hA.pre X c e1 hX) hm)
      · have em : m = a := by grind
        rw [e2]
        by_cases hc : c = []
        · rw [hc]; exact L.leMono mb hB.le
        · exact L.leAdd (by rw [em]; exact hA.suf X c e1 hc) (L.leMono mb hB.le)
end
noncomputable def pool1 (lev : List Mk → Rat) : List (List Mk) → List Mk → List (List Mk)
  | [], blk => [blk]
  | b :: st, blk => if lev blk < lev b then pool1 lev st (b ++ blk) else blk :: b :: st
noncomputable def poolN (lev : List Mk → Rat) (ms : List Mk) : List (List Mk) := ms.foldl (fun st m => pool1 lev st [m]) []
structure Stk (Ge Le : List Mk → Rat → Prop) (lev : List Mk → Rat) (st : List (List Mk)) : Prop where
  blk : ∀ B ∈ st, Blk Ge Le B (lev B)
  up : st.Pairwise fun B A => lev A ≤ lev B
theorem pool1_ok {Ge Le : List Mk → Rat → Prop} (L : Lv Ge Le) {lev : List Mk → Rat} (hl : ∀ A : List Mk, A ≠ [] → (∀ z ∈ A, 1 ≤ z.2.2) → Ge A (lev A) ∧ Le A (lev A)) :
    ∀ {st : List (List Mk)} {blk : List Mk}, Stk Ge Le lev st → Blk Ge Le blk (lev blk) → Stk Ge Le lev (pool1 lev st blk) ∧ (pool1 lev st blk).reverse.flatten = st.reverse.flatten ++ blk
  | [], blk, _, hb => by
    refine ⟨⟨fun B hB => by rw [pool1] at hB; rw [List.mem_singleton.mp hB]; exact hb, by rw [pool1]; exact List.pairwise_singleton _ _⟩, by simp [pool1]⟩
  | b :: st, blk, S, hb => by
    have sb := S.blk b List.mem_cons_self
    have up := List.pairwise_cons.mp S.up
    rw [pool1]
    by_cases c : lev blk < lev b
    · rw [if_pos c]
      have hw : ∀ z ∈ b ++ blk, 1 ≤ z.2.2 := fun z hz => by
        rcases List.mem_append.mp hz with h | h
        · exact sb.w z h
        · exact hb.w z h
      obtain ⟨g, l⟩ := hl (b ++ blk) (by simp [sb.ne]) hw
      obtain ⟨h1, h2⟩ := pool1_ok L hl (st := st) (blk := b ++ blk) ⟨fun B hB => S.blk B (List.mem_cons_of_mem _ hB), up.2⟩ (blk_join L sb hb c g l)
      exact ⟨h1, by rw [h2]; simp⟩
    · rw [if_neg c]
      refine ⟨⟨fun B hB => ?_, List.pairwise_cons.mpr ⟨fun A hA => ?_, S.up⟩⟩, by simp⟩
      · rcases List.mem_cons.mp hB with rfl | hB
        · exact hb
        · exact S.blk B hB
      · have c2 := Rat.not_lt.mp c
        rcases List.mem_cons.mp hA with rfl | hA
        · exact c2
        · have := up.1 A hA; grind
theorem poolN_snoc (lev : List Mk → Rat) (ms : List Mk) (m : Mk) : poolN lev (ms ++ [m]) = pool1 lev (poolN lev ms) [m] := by
  unfold poolN
  rw [List.foldl_append]; rfl
theorem poolN_ok {Ge Le : List Mk → Rat → Prop} (L : Lv Ge Le) {lev : List Mk → Rat} (hl : ∀ A : List Mk, A ≠ [] → (∀ z ∈ A, 1 ≤ z.2.2) → Ge A (lev A) ∧ Le A (lev A)) {ms : List Mk} (hw : ∀ z ∈ ms, 1 ≤ z.2.2) :
    ∀ n, n ≤ ms.length → Stk Ge Le lev (poolN lev (ms.take n)) ∧ (poolN lev (ms.take n)).reverse.flatten = ms.take n
  | 0, _ => ⟨⟨(fun B hB => nomatch hB), List.Pairwise.nil⟩, rfl⟩
  | n + 1, h => by
    obtain ⟨S, e⟩ := poolN_ok L hl hw n (by omega)
    have hn : n < ms.length := by omega
    have et : ms.take (n + 1) = ms.take n ++ [ms[n]] := by rw [List.take_add_one, List.getElem?_eq_getElem hn]; rfl
    have h1 : ∀ z ∈ [ms[n]], 1 ≤ z.2.2 := fun z hz => by rw [List.mem_singleton.mp hz]; exact hw _ (List.getElem_mem hn)
    obtain ⟨g, l⟩ := hl [ms[n]] (by simp) h1
    obtain ⟨a, b⟩ := pool1_ok L hl S (blk_one (hw _ (List.getElem_mem hn)) g l)
    rw [et, poolN_snoc]
    exact ⟨a, by rw [b, e]⟩
noncomputable def lay (lev : List Mk → Rat) (bs : List (List Mk)) : List Rat := (bs.map fun B => List.replicate B.length (lev B)).flatten
theorem lay_len (lev : List Mk → Rat) : ∀ bs : List (List Mk), (lay lev bs).length = bs.flatten.length
  | [] => rfl
  | B :: bs => by
    have := lay_len lev bs
    unfold lay at *
    simp only [List.map_cons, List.flatten_cons, List.length_append, List.length_replicate, this]
theorem lay_mem {lev : List Mk → Rat} {bs : List (List Mk)} {q : Rat} (h : q ∈ lay lev bs) : ∃ B ∈ bs, B ≠ [] ∧ q = lev B := by
  unfold lay at h
  obtain ⟨l, hl, hq⟩ := List.mem_flatten.mp h
  obtain ⟨B, hB, rfl⟩ := List.mem_map.mp hl
  refine ⟨B, hB, fun z => ?_, List.eq_of_mem_replicate hq⟩
  rw [z] at hq; simp at hq
structure Up0 (p : List Rat) : Prop where
  nn : ∀ k, k ≤ p.length → 0 ≤ tot (p.take k)
  z : tot p = 0
theorem lay_holds (lev : List Mk → Rat) (pl : List Mk → List Rat) : ∀ {bs : List (List Mk)}, (∀ B ∈ bs, B ≠ [] ∧ (pl B).length = B.length ∧ Up0 (pl B)) → bs.Pairwise (fun A B => lev A ≤ lev B) →
    (∀ i, i + 1 < (lay lev bs).length → (lay lev bs).getD i 0 ≤ (lay lev bs).getD (i + 1) 0) ∧
    (∀ i, i < (lay lev bs).length → 0 ≤ tot (((bs.map pl).flatten).take (i + 1)) ∧ (i + 1 = (lay lev bs).length ∨ (lay lev bs).getD (i + 1) 0 ≠ (lay lev bs).getD i 0 → tot (((bs.map pl).flatten).take (i + 1)) = 0)) ∧ tot ((bs.map pl).flatten) = 0
  | [], _, _ => ⟨fun i hi => absurd hi (Nat.not_lt_zero _), fun i hi => absurd hi (Nat.not_lt_zero _), rfl⟩
  | B :: bs, hb, up => by
    have hu := List.pairwise_cons.mp up
    obtain ⟨h1, h2, h3⟩ := lay_holds lev pl (bs := bs) (fun A hA => hb A (List.mem_cons_of_mem _ hA)) hu.2
    obtain ⟨bne, bl, U⟩ := hb B List.mem_cons_self
    have e1 : lay lev (B :: bs) = List.replicate B.length (lev B) ++ lay lev bs := rfl
    have e2 : ((B :: bs).map pl).flatten = pl B ++ (bs.map pl).flatten := rfl
    have g1 : ∀ i, i < B.length → (lay lev (B :: bs)).getD i 0 = lev B := fun i hi => by
      rw [e1, List.getD_eq_getElem?_getD, List.getElem?_append_left (by simpa using hi)]
      simp [hi]
    have g2 : ∀ i, B.length ≤ i → (lay lev (B :: bs)).getD i 0 = (lay lev bs).getD (i - B.length) 0 := fun i hi => by
      rw [e1, List.getD_eq_getElem?_getD, List.getElem?_append_right (by simpa using hi), List.getD_eq_getElem?_getD]
      simp
    have ll : (lay lev (B :: bs)).length = B.length + (lay lev bs).length := by rw [e1]; simp
    have ge : ∀ j, j < (lay lev bs).length → lev B ≤ (lay lev bs).getD j 0 := fun j hj => by
      have e : (lay lev bs).getD j 0 = (lay lev bs)[j] := by simp [List.getD, hj]
      obtain ⟨A, hA, _, eq⟩ := lay_mem (List.getElem_mem hj)
      rw [e, eq]; exact hu.1 A hA
    refine ⟨fun i hi => ?_, fun i hi => ?_, ?_⟩
    · rcases Nat.lt_or_ge (i + 1) B.length with c | c
      · rw [g1 i (by omega), g1 (i + 1) c]; exact Rat.le_refl
      · rw [g2 (i + 1) c]
        rcases Nat.lt_or_ge i B.length with d | d
        · rw [g1 i d]; exact ge _ (by omega)
        · rw [g2 i d]
          have := h1 (i - B.length) (by omega)
          rw [show i + 1 - B.length = i - B.length + 1 by omega]
          exact this
    · rcases Nat.lt_or_ge i B.length with d | d
      · have et : ((pl B ++ (bs.map pl).flatten)).take (i + 1) = (pl B).take (i + 1) := List.take_append_of_le_length (by omega)
        rw [e2, et]
        refine ⟨U.nn (i + 1) (by omega), fun h => ?_⟩
        have c : i + 1 = B.length := by
          rcases Nat.lt_or_ge (i + 1) B.length with c | c
          · rcases h with h | h
            · omega
            · exact absurd (by rw [g1 _ c, g1 i d]) h
          · omega
        rw [show (pl B).take (i + 1) = pl B by rw [List.take_of_length_le (by omega)]]
        exact U.z
      · have et : ((pl B ++ (bs.map pl).flatten)).take (i + 1) = pl B ++ ((bs.map pl).flatten).take (i - B.length + 1) := by
          rw [List.take_append, List.take_of_length_le (by omega), bl, show i + 1 - B.length = i - B.length + 1 by omega]
        obtain ⟨a, b⟩ := h2 (i - B.length) (by omega)
        rw [e2, et, tot_app, U.z, Rat.zero_add]
        refine ⟨a, fun h => b ?_⟩
        rcases h with h | h
        · exact .inl (by omega)
        · refine .inr ?_
          rw [g2 (i + 1) (by omega), g2 i d, show i + 1 - B.length = i - B.length + 1 by omega] at h
          exact h
    · rw [e2, tot_app, U.z, h3, Rat.zero_add]
noncomputable def Ws (A : List Mk) : Prop := ∀ z ∈ A, 1 ≤ z.2.2
theorem Ws.app {A B : List Mk} (h : Ws (A ++ B)) : Ws A ∧ Ws B := ⟨fun z hz => h z (List.mem_append_left _ hz), fun z hz => h z (List.mem_append_right _ hz)⟩
theorem Ws.join {A B : List Mk} (a : Ws A) (b : Ws B) : Ws (A ++ B) := fun z hz => by
  rcases List.mem_append.mp hz with h | h
  · exact a z h
  · exact b z h
theorem wsum_app : ∀ A B : List Mk, wsum (A ++ B) = wsum A + wsum B
  | [], B => by simp [wsum]
  | m :: A, B => by rw [List.cons_append, wsum, wsum, wsum_app A B]; omega
theorem umix_app : ∀ A B : List Mk, umix (A ++ B) = umix A + umix B
  | [], B => by
    have e : umix [] = 0 := rfl
    rw [e, List.nil_append]; grind
  | m :: A, B => by rw [List.cons_append, umix_cons, umix_cons, umix_app A B]; grind
theorem wsum_nn : ∀ {A : List Mk}, Ws A → 0 ≤ wsum A
  | [], _ => by simp [wsum]
  | m :: A, h => by
    have h1 := h m List.mem_cons_self
    have h2 := wsum_nn (A := A) fun z hz => h z (List.mem_cons_of_mem _ hz)
    rw [wsum]; omega
noncomputable def exc (A : List Mk) (x : Rat) : Rat := umix A - x * (wsum A : Rat)
theorem exc_app (A B : List Mk) (x : Rat) : exc (A ++ B) x = exc A x + exc B x := by
  unfold exc
  rw [umix_app, wsum_app, Rat.intCast_add]; grind
noncomputable def GeS (A : List Mk) (x : Rat) : Prop := Ws A ∧ 0 ≤ exc A x
noncomputable def LeS (A : List Mk) (x : Rat) : Prop := Ws A ∧ exc A x ≤ 0
theorem exc_mono {A : List Mk} (h : Ws A) {a m : Rat} (e : m ≤ a) : exc A a ≤ exc A m := by
  have w0 : (0 : Rat) ≤ (wsum A : Rat) := Rat.intCast_nonneg.mpr (wsum_nn h)
  have := Rat.mul_nonneg (show 0 ≤ a - m by grind) w0
  unfold exc; grind
theorem exc_lt {A : List Mk} (hne : A ≠ []) (h : Ws A) {a m : Rat} (e : m < a) : exc A a < exc A m := by
  have w0 : (0 : Rat) < (wsum A : Rat) := Rat.intCast_pos.mpr (by have := wsum_pos hne h; omega)
  have := Rat.mul_pos (show 0 < a - m by grind) w0
  unfold exc; grind
theorem lv_sq : Lv GeS LeS where
  geMono := fun e h => ⟨h.1, by have := exc_mono h.1 e; have := h.2; grind⟩
  leMono := fun e h => ⟨h.1, by have := exc_mono h.1 e; have := h.2; grind⟩
  geAdd := fun h k => ⟨h.1.join k.1, by rw [exc_app]; have := h.2; have := k.2; grind⟩
  leAdd := fun h k => ⟨h.1.join k.1, by rw [exc_app]; have := h.2; have := k.2; grind⟩
  geCut := fun {A B x} h k => by
    have hw := h.1.app
    have h2 := h.2
    rw [exc_app] at h2
    have : exc B x < 0 := Rat.not_le.mp fun c => k ⟨hw.2, c⟩
    exact ⟨hw.1, by grind⟩
  leCut := fun {A B x} h k => by
    have hw := h.1.app
    have h2 := h.2
    rw [exc_app] at h2
    have : 0 < exc A x := Rat.not_le.mp fun c => k ⟨hw.1, c⟩
    exact ⟨hw.2, by grind⟩
  gap1 := fun hne _ h e k => by have := exc_lt hne h.1 e; have := h.2; have := k.2; grind
  gap2 := fun hne _ h e k => by have := exc_lt hne h.1 e; have := h.2; have := k.2; grind
noncomputable def levQ (A : List Mk) : Rat := umix A / (wsum A : Rat)
theorem levQ_exc {A : List Mk} (hne : A ≠ []) (h : Ws A) : exc A (levQ A) = 0 := by
  have w0 : (wsum A : Rat) ≠ 0 := fun z => by have := Rat.intCast_pos.mpr (show 0 < wsum A by have := wsum_pos hne h; omega); grind
  unfold exc levQ
  grind
theorem levQ_ok (A : List Mk) (hne : A ≠ []) (h : ∀ z ∈ A, 1 ≤ z.2.2) : GeS A (levQ A) ∧ LeS A (levQ A) := by
  have := levQ_exc hne h
  exact ⟨⟨h, by rw [this]; exact Rat.le_refl⟩, ⟨h, by rw [this]; exact Rat.le_refl⟩⟩
theorem wmiss_exc (x : Rat) : ∀ S : List Mk, tot (S.map fun m => (m.2.2 : Rat) * (m.2.1 - x)) = exc S x
  | [] => by
    have e : umix [] = 0 := rfl
    have e2 : ((wsum [] : Int) : Rat) = 0 := rfl
    unfold exc
    rw [e, e2]; simp [tot]; grind
  | m :: S => by
    have := wmiss_exc x S
    rw [List.map_cons, tot, this]
    unfold exc
    rw [umix_cons, wsum, Rat.intCast_add]; grind
theorem up0_sq {B : List Mk} (hb : Blk GeS LeS B (levQ B)) : Up0 (B.map fun m => (m.2.2 : Rat) * (m.2.1 - levQ B)) := by
  refine ⟨fun k hk => ?_, by rw [wmiss_exc]; exact levQ_exc hb.ne hb.w⟩
  rw [← List.map_take, wmiss_exc]
  by_cases c : B.take k = []
  · rw [c]
    have e : umix [] = 0 := rfl
    have e2 : ((wsum [] : Int) : Rat) = 0 := rfl
    unfold exc; rw [e, e2]; grind
  · exact (hb.pre (B.take k) (B.drop k) (List.take_append_drop k B).symm c).2
theorem exc_pos_mem {A : List Mk} {x : Rat} (h : Ws A) : ∀ (_ : A ≠ []) (_ : 0 ≤ exc A x), ∃ m ∈ A, x ≤ m.2.1 := fun hne he => by
  refine Classical.byContradiction fun c => ?_
  have c1 : ∀ m ∈ A, m.2.1 < x := fun m hm => Rat.not_le.mp fun k => c ⟨m, hm, k⟩
  have : exc A x < 0 := by
    clear c he
    induction A with
    | nil => exact absurd rfl hne
    | cons m A ih =>
      have e1 : exc (m :: A) x = (m.2.2 : Rat) * (m.2.1 - x) + exc A x := by
        unfold exc
        rw [umix_cons, wsum, Rat.intCast_add]; grind
      have w0 : (0 : Rat) < (m.2.2 : Rat) := Rat.intCast_pos.mpr (by have := h m List.mem_cons_self; omega)
      have p := Rat.mul_pos w0 (show 0 < x - m.2.1 by have := c1 m List.mem_cons_self; grind)
      by_cases d : A = []
      · rw [e1, d]
        have e : umix [] = 0 := rfl
        have e2 : ((wsum [] : Int) : Rat) = 0 := rfl
        unfold exc; rw [e, e2]; grind
      · have := ih (fun z hz => h z (List.mem_cons_of_mem _ hz)) d fun z hz => c1 z (List.mem_cons_of_mem _ hz)
        grind
  grind
theorem exc_neg_mem {A : List Mk} {x : Rat} (h : Ws A) : ∀ (_ : A ≠ []) (_ : exc A x ≤ 0), ∃ m ∈ A, m.2.1 ≤ x := fun hne he => by
  refine Classical.byContradiction fun c => ?_
  have c1 : ∀ m ∈ A, x < m.2.1 := fun m hm => Rat.not_le.mp fun k => c ⟨m, hm, k⟩
  have : 0 < exc A x := by
    clear c he
    induction A with
    | nil => exact absurd rfl hne
    | cons m A ih =>
      have e1 : exc (m :: A) x = (m.2.2 : Rat) * (m.2.1 - x) + exc A x := by
        unfold exc
        rw [umix_cons, wsum, Rat.intCast_add]; grind
      have w0 : (0 : Rat) < (m.2.2 : Rat) := Rat.intCast_pos.mpr (by have := h m List.mem_cons_self; omega)
      have p := Rat.mul_pos w0 (show 0 < m.2.1 - x by have := c1 m List.mem_cons_self; grind)
      by_cases d : A = []
      · rw [e1, d]
        have e : umix [] = 0 := rfl
        have e2 : ((wsum [] : Int) : Rat) = 0 := rfl
        unfold exc; rw [e, e2]; grind
      · have := ih (fun z hz => h z (List.mem_cons_of_mem _ hz)) d fun z hz => c1 z (List.mem_cons_of_mem _ hz)
        grind
  grind
noncomputable def wlt (x : Rat) : List Mk → Int
  | [] => 0
  | m :: A => (if m.2.1 < x then m.2.2 else 0) + wlt x A
noncomputable def wle (x : Rat) : List Mk → Int
  | [] => 0
  | m :: A => (if m.2.1 ≤ x then m.2.2 else 0) + wle x A
theorem wlt_app (x : Rat) : ∀ A B : List Mk, wlt x (A ++ B) = wlt x A + wlt x B
  | [], B => by simp [wlt]
  | m :: A, B => by rw [List.cons_append, wlt, wlt, wlt_app x A B]; omega
theorem wle_app (x : Rat) : ∀ A B : List Mk, wle x (A ++ B) = wle x A + wle x B
  | [], B => by simp [wle]
  | m :: A, B => by rw [List.cons_append, wle, wle, wle_app x A B]; omega
theorem wlt_mono {a m : Rat} (e : m ≤ a) : ∀ {A : List Mk}, Ws A → wlt m A ≤ wlt a A
  | [], _ => Int.le_refl _
  | z :: A, h => by
    have h1 := h z List.mem_cons_self
    have h2 := wlt_mono e (A := A) fun y hy => h y (List.mem_cons_of_mem _ hy)
    rw [wlt, wlt]
    by_cases c : z.2.1 < m
    · rw [if_pos c, if_pos (by grind)]; omega
    · rw [if_neg c]; split <;> omega
theorem wle_mono {a m : Rat} (e : m ≤ a) : ∀ {A : List Mk}, Ws A → wle m A ≤ wle a A
  | [], _ => Int.le_refl _
  | z :: A, h => by
    have h1 := h z List.mem_cons_self
    have h2 := wle_mono e (A := A) fun y hy => h y (List.mem_cons_of_mem _ hy)
    rw [wle, wle]
    by_cases c : z.2.1 ≤ m
    · rw [if_pos c, if_pos (by grind)]; omega
    · rw [if_neg c]; split <;> omega
theorem wle_wlt {a m : Rat} (e : m < a) : ∀ {A : List Mk}, Ws A → wle m A ≤ wlt a A
  | [], _ => Int.le_refl _
  | z :: A, h => by
    have h1 := h z List.mem_cons_self
    have h2 := wle_wlt e (A := A) fun y hy => h y (List.mem_cons_of_mem _ hy)
    rw [wle, wlt]
    by_cases c : z.2.1 ≤ m
    · rw [if_pos c, if_pos (by grind)]; omega
    · rw [if_neg c]; split <;> omega
noncomputable def GeM (A : List Mk) (x : Rat) : Prop := Ws A ∧ 2 * wlt x A < wsum A
noncomputable def LeM (A : List Mk) (x : Rat) : Prop := Ws A ∧ wsum A ≤ 2 * wle x A
theorem lv_sum : Lv GeM LeM where
  geMono := fun e h => ⟨h.1, by have := wlt_mono e h.1; have := h.2; omega⟩
  leMono := fun e h => ⟨h.1, by have := wle_mono e h.1; have := h.2; omega⟩
  geAdd := fun h k => ⟨h.1.join k.1, by rw [wlt_app, wsum_app]; have := h.2; have := k.2; omega⟩
  leAdd := fun h k => ⟨h.1.join k.1, by rw [wle_app, wsum_app]; have := h.2; have := k.2; omega⟩
  geCut := fun {A B x} h k => by
    have hw := h.1.app
    have h2 := h.2
    rw [wlt_app, wsum_app] at h2
    have : ¬ 2 * wlt x B < wsum B := fun c => k ⟨hw.2, c⟩
    exact ⟨hw.1, by omega⟩
  leCut := fun {A B x} h k => by
    have hw := h.1.app
    have h2 := h.2
    rw [wle_app, wsum_app] at h2
    have : ¬ wsum A ≤ 2 * wle x A := fun c => k ⟨hw.1, c⟩
    exact ⟨hw.2, by omega⟩
  gap1 := fun _ _ h e k => by have := wle_wlt e h.1; have := h.2; have := k.2; omega
  gap2 := fun _ _ h e k => by have := wle_wlt e h.1; have := h.2; have := k.2; omega
theorem fsum_lt (x : Rat) : ∀ A : List Mk, fsum (fun z => decide (z.1 < x)) ((hgts A).zip (wgts A)) = (wlt x A : Rat)
  | [] => rfl
  | m :: A => by
    have e : (hgts (m :: A)).zip (wgts (m :: A)) = (m.2.1, (m.2.2 : Rat)) :: (hgts A).zip (wgts A) := rfl
    rw [e, fsum_cons, fsum_lt x A, wlt, Rat.intCast_add]
    by_cases c : m.2.1 < x
    · rw [if_pos (by simpa using c), if_pos c]
    · rw [if_neg (by simpa using c), if_neg c]; rfl
theorem fsum_le2 (x : Rat) : ∀ A : List Mk, fsum (fun z => decide (z.1 ≤ x)) ((hgts A).zip (wgts A)) = (wle x A : Rat)
  | [] => rfl
  | m :: A => by
    have e : (hgts (m :: A)).zip (wgts (m :: A)) = (m.2.1, (m.2.2 : Rat)) :: (hgts A).zip (wgts A) := rfl
    rw [e, fsum_cons, fsum_le2 x A, wle, Rat.intCast_add]
    by_cases c : m.2.1 ≤ x
    · rw [if_pos (by simpa using c), if_pos c]
    · rw [if_neg (by simpa using c), if_neg c]; rfl
theorem zip_w (A : List Mk) : tot (((hgts A).zip (wgts A)).map (·.2)) = (wsum A : Rat) := by
  have e : ((hgts A).zip (wgts A)).map (·.2) = wgts A := by
    induction A with
    | nil => rfl
    | cons m A ih =>
      show (m.2.2 : Rat) :: ((hgts A).zip (wgts A)).map (·.2) = (m.2.2 : Rat) :: wgts A
      rw [ih]
  rw [e, wsum_tot]
theorem mid_ge {A : List Mk} {x : Rat} (hw : Ws A) (M : Mid ((hgts A).zip (wgts A)) x) : GeM A x ∧ LeM A x := by
  have h1 := M.lo
  have h2 := M.hi
  rw [fsum_lt, zip_w, ← Rat.intCast_add, Rat.intCast_lt_intCast] at h1
  rw [fsum_le2, zip_w, ← Rat.intCast_add, Rat.intCast_le_intCast] at h2
  exact ⟨⟨hw, by omega⟩, ⟨hw, by omega⟩⟩
theorem mid_one {A : List Mk} {x y : Rat} (hne : A ≠ []) (hw : Ws A) (M : Mid ((hgts A).zip (wgts A)) x) (N : Mid ((hgts A).zip (wgts A)) y) : x = y := by
  obtain ⟨a, b⟩ := mid_ge hw M
  obtain ⟨c, d⟩ := mid_ge hw N
  refine Rat.le_antisymm (Rat.not_lt.mp fun e => lv_sum.gap1 hne hw d e a) (Rat.not_lt.mp fun e => lv_sum.gap1 hne hw b e c)
noncomputable def fixI (x : Rat) (m : Mk) : Int := if 0 < m.2.1 - x then m.2.2 else -m.2.2
noncomputable def fixS (x : Rat) : List Mk → Int
  | [] => 0
  | m :: A => fixI x m + fixS x A
noncomputable def zeroS (x : Rat) : List Mk → Int
  | [] => 0
  | m :: A => (if m.2.1 - x = 0 then m.2.2 else 0) + zeroS x A
noncomputable def upI (x : Rat) (left : Int) (m : Mk) : Int := if m.2.1 - x = 0 then (if 2 * m.2.2 < left then 2 * m.2.2 else left) else 0
noncomputable def early (x : Rat) : Int → List Mk → List Int
  | _, [] => []
  | left, m :: A => (fixI x m + upI x left m) :: early x (left - upI x left m) A
theorem early_len (x : Rat) : ∀ (left : Int) (A : List Mk), (early x left A).length = A.length
  | _, [] => rfl
  | left, m :: A => by rw [early, List.length_cons, early_len, List.length_cons]
theorem early_take (x : Rat) : ∀ (k : Nat) (left : Int) (A : List Mk), (early x left A).take k = early x left (A.take k)
  | 0, _, _ => by simp [early]
  | k + 1, _, [] => by simp [early]
  | k + 1, left, m :: A => by rw [early, List.take_succ_cons, List.take_succ_cons, early, early_take x k]
theorem early_sum (x : Rat) : ∀ (left : Int) (A : List Mk), 0 ≤ left → Ws A → (early x left A).sum = fixS x A + (if 2 * zeroS x A < left then 2 * zeroS x A else left)
  | left, [], h, _ => by
    have e1 : fixS x [] = 0 := rfl
    have e2 : zeroS x [] = 0 := rfl
    have e3 : (early x left []).sum = 0 := rfl
    rw [e1, e3]
    by_cases c : 2 * zeroS x [] < left
    · rw [if_pos c]; omega
    · rw [if_neg c]; omega
  | left, m :: A, h, hw => by
    have h1 := hw m List.mem_cons_self
    have u0 : 0 ≤ left - upI x left m := by unfold upI; split <;> (try split) <;> omega
    have ih := early_sum x (left - upI x left m) A u0 fun z hz => hw z (List.mem_cons_of_mem _ hz)
    have z0 : 0 ≤ zeroS x A := by
      clear ih u0
      induction A with
      | nil => exact Int.le_refl _
      | cons y A ih =>
        have := ih fun z hz => hw z (by rcases List.mem_cons.mp hz with rfl | hz; exact List.mem_cons_self; exact List.mem_cons_of_mem _ (List.mem_cons_of_mem _ hz))
        have := hw y (List.mem_cons_of_mem _ List.mem_cons_self)
        rw [zeroS]; split <;> omega
    rw [early, List.sum_cons, ih, fixS, zeroS]
    generalize fixI x m = f at *
    generalize fixS x A = F at *
    generalize zeroS x A = Z at *
    unfold upI at *
    by_cases c : m.2.1 - x = 0
    · rw [if_pos c, if_pos c] at *
      split <;> split <;> split <;> omega
    · rw [if_neg c, if_neg c] at *
      split <;> split <;> omega
theorem fixS_eq (x : Rat) : ∀ A : List Mk, fixS x A = wsum A - 2 * wle x A
  | [] => by simp [fixS, wsum, wle]
  | m :: A => by
    rw [fixS, wsum, wle, fixS_eq x A, fixI]
    by_cases c : m.2.1 ≤ x
    · rw [if_neg (by grind), if_pos c]; omega
    · rw [if_pos (by grind), if_neg c]; omega
theorem zeroS_eq (x : Rat) : ∀ A : List Mk, zeroS x A = wle x A - wlt x A
  | [] => by simp [zeroS, wlt, wle]
  | m :: A => by
    rw [zeroS, wlt, wle, zeroS_eq x A]
    by_cases c : m.2.1 < x
    · rw [if_neg (by grind), if_pos c, if_pos (by grind)]; omega
    · by_cases d : m.2.1 = x
      · rw [if_pos (by grind), if_neg c, if_pos (by grind)]; omega
      · rw [if_neg (by grind), if_neg c, if_neg (by grind)]; omega
theorem fixS_app (x : Rat) (A B : List Mk) : fixS x (A ++ B) = fixS x A + fixS x B := by
  rw [fixS_eq, fixS_eq, fixS_eq, wsum_app, wle_app]; omega
theorem tot_ints : ∀ ns : List Int, tot (ns.map fun n : Int => (n : Rat)) = (ns.sum : Rat)
  | [] => rfl
  | n :: ns => by rw [List.map_cons, tot, tot_ints ns, List.sum_cons, Rat.intCast_add]
theorem up0_sum {B : List Mk} {x : Rat} (hb : Blk GeM LeM B x) : Up0 ((early x (-fixS x B) B).map fun n : Int => (n : Rat)) := by
  have hl := hb.le.2
  have hg := hb.ge.2
  have l0 : 0 ≤ -fixS x B := by rw [fixS_eq]; omega
  refine ⟨fun k hk => ?_, ?_⟩
  · rw [← List.map_take, early_take, tot_ints, early_sum x _ _ l0 (fun z hz => hb.w z (List.mem_of_mem_take hz))]
    refine Rat.intCast_nonneg.mpr ?_
    have e := fixS_app x (B.take k) (B.drop k)
    rw [List.take_append_drop] at e
    by_cases c : 2 * zeroS x (B.take k) < -fixS x B
    · rw [if_pos c]
      by_cases d : B.take k = []
      · rw [d]; simp [fixS, zeroS]
      · have := (hb.pre (B.take k) (B.drop k) (List.take_append_drop k B).symm d).2
        rw [fixS_eq, zeroS_eq]; omega
    · rw [if_neg c]
      by_cases d : B.drop k = []
      · rw [d] at e; simp [fixS] at e; omega
      · have := (hb.suf (B.take k) (B.drop k) (List.take_append_drop k B).symm d).2
        have e2 := fixS_eq x (B.drop k)
        omega
  · rw [tot_ints, early_sum x _ _ l0 hb.w]
    have e1 := fixS_eq x B
    have e2 := zeroS_eq x B
    have : (fixS x B + (if 2 * zeroS x B < -fixS x B then 2 * zeroS x B else -fixS x B)) = 0 := by split <;> omega
    rw [this]; rfl
theorem lev_one {kd : Str} {A : List Mk} {x y : Rat} (hk : kd = "sum" ∨ kd = "square") (hne : A ≠ []) (hw : ∀ m ∈ A, 1 ≤ m.2.2) (h : LevelOk kd A x) (h' : LevelOk kd A y) : x = y := by
  rcases hk with e | e
  · exact mid_one hne hw (h.sum e) (h'.sum e)
  · rw [h.sq e, h'.sq e]
noncomputable def levF (kd : Str) (A : List Mk) : Rat := open Classical in if h : ∃ x, LevelOk kd A x then Classical.choose h else 0
theorem levF_eq {kd : Str} {A : List Mk} {x : Rat} (hk : kd = "sum" ∨ kd = "square") (hne : A ≠ []) (hw : ∀ m ∈ A, 1 ≤ m.2.2) (h : LevelOk kd A x) : levF kd A = x := by
  have e : ∃ x, LevelOk kd A x := ⟨x, h⟩
  unfold levF
  rw [dif_pos e]
  exact lev_one hk hne hw (Classical.choose_spec e) h
theorem lev_ok {kd : Str} {A : List Mk} {x : Rat} {L : Nat} (hk : kd ∈ kdsL) (h : LevelOk kd A x) (hne : A ≠ []) (h60 : A.length ≤ 60) (L0 : 0 < L) (L1 : L ≤ 10 ^ 100) (hc : ∀ m ∈ A, Cm L (10 ^ 100) m.2.1) (hw : ∀ m ∈ A, 1 ≤ m.2.2 ∧ m.2.2 ≤ 10 ^ 100) : Ok x := by
  have wp := wsum_pos hne fun m h => (hw m h).1
  have wl : wsum A ≤ 60 * 10 ^ 100 := by
    have h1 := wsum_le (W := 10 ^ 100) fun m h => (hw m h).2
    have h2 : (A.length : Int) * 10 ^ 100 ≤ 60 * 10 ^ 100 := Int.mul_le_mul_of_nonneg_right (by omega) (by decide +kernel)
    omega
  have wn : (wsum A).toNat ≤ 60 * 10 ^ 100 := by omega
  have cx := level_cm hk h hne hc fun m h => (hw m h).1
  have p1 : 0 < 2 * L * (wsum A).toNat := Nat.mul_pos (by omega) (by omega)
  have p2 : 2 * L * (wsum A).toNat ≤ 10 ^ 203 := Nat.le_trans (Nat.mul_le_mul (Nat.mul_le_mul_left 2 L1) wn) (by decide +kernel)
  exact dgOk (cx.dg p1 p2 (b := 100) (Nat.le_refl _)) (by decide)
noncomputable def encB (B : List Mk) : PyData := .list (B.map mk3)
theorem atI_last (ds : List PyData) (d : PyData) : atI (ds ++ [d]) (-1) = some d := by
  have h : ixN (ds ++ [d]).length (-1) = some ds.length := by
    unfold ixN
    rw [List.length_append, List.length_singleton, if_neg (by decide), if_pos (by omega)]
    congr 1
    omega
  unfold atI
  rw [h]
  simp
section
variable {P : Program} {w : World} {K : PySem.W.Frag} {mg : Str → Option Value} {base : Heap} {A : Adr}
noncomputable def wPooled : DW := fun ds Q _ => ∃ (kd : Str) (ms : List Mk) (L : Nat), ds = [.str kd, .list (ms.map mk3)] ∧ (kd = "sum" ∨ kd = "square") ∧ ms.length ≤ 60 ∧ 0 < L ∧ L ≤ 10 ^ 100 ∧ (∀ m ∈ ms, Cm L (10 ^ 100) m.2.1) ∧ (∀ m ∈ ms, 1 ≤ m.2.2 ∧ m.2.2 ≤ 10 ^ 100) ∧
  Q (.dat (.list ((poolN (levF kd) ms).reverse.map encB)))
structure Pst (ms : List Mk) (n : Nat) (st : List (List Mk)) (blk : List Mk) : Prop where
  s : ∀ B ∈ st, B ≠ [] ∧ ∀ z ∈ B, z ∈ ms
  b : blk ≠ [] ∧ ∀ z ∈ blk, z ∈ ms
  n : st.flatten.length + blk.length ≤ n
theorem pool1_all {ms : List Mk} {n : Nat} {lev : List Mk → Rat} : ∀ {st : List (List Mk)} {blk : List Mk}, Pst ms n st blk → (∀ B ∈ pool1 lev st blk, B ≠ [] ∧ ∀ z ∈ B, z ∈ ms) ∧ (pool1 lev st blk).flatten.length ≤ n
  | [], blk, h => ⟨fun B hB => by rw [pool1] at hB; rw [List.mem_singleton.mp hB]; exact h.b, by have := h.n; simpa [pool1] using this⟩
  | b :: st, blk, h => by
    rw [pool1]
    have hb := h.s b List.mem_cons_self
    have hn := h.n
    rw [List.flatten_cons, List.length_append] at hn
    split
    · exact pool1_all ⟨fun B hB => h.s B (List.mem_cons_of_mem _ hB), ⟨by simp [hb.1], fun z hz => by
        rcases List.mem_append.mp hz with q | q
        · exact hb.2 z q
        · exact h.b.2 z q⟩, by rw [List.length_append]; omega⟩
    · refine ⟨fun B hB => ?_, by rw [List.flatten_cons, List.length_append, List.flatten_cons, List.length_append]; omega⟩
      rcases List.mem_cons.mp hB with rfl | hB
      · exact h.b
      · exact h.s B hB
theorem ok_pooled (T : Txt K mg A) : FnOk P w K mg base (CXE P w) 6 A.a_pooled A.d_pooled ["kind", "marks"] (spW K wPooled) := by
  have G_is_less := ok_is_less (P := P) (w := w) (base := base) T
  have G_least_level := ok_least_level (P := P) (w := w) (base := base) T
  refine okW T.F_pooled sc_pooled (fun ds Q E h => ?_) (fun cdv Ar outer s H E hr => ?_)
  · obtain ⟨_, _, _, rfl, _⟩ := h; rfl
  refine ⟨_, (pss_cons (ps_set (i := 2) sc_pooled.nd rfl (Or.inl rfl) (pe_lst pa_nil))
      (pss_cons (ps_for PassesOwn.leaving rfl (pilK (K := K) rfl (pv 1)) (pg_name (i := 3) sc_pooled.nd rfl (Or.inl rfl))
        (pss_cons (ps_set (i := 4) sc_pooled.nd rfl (Or.inl rfl) (pe_lst (pa_cons (pv 3) pa_nil)))
      (pss_cons (ps_while PassesOwn.leaving (PW.pt (pw_and (pt_cmpR op_gt (pe_callB (lenK (K := K) rfl) rfl T.n_len PySem.boot_len (pa_cons (pv 2) pa_nil)) pe_int (nomark _)) (pw_and1 (pt_val (pe_call G_is_less (hr.mono (by decide)) rfl T.m_is_less T.F_is_less.kp T.b_is_less .nil passE0 (pa_cons (pe_call G_least_level (hr.mono (by decide)) rfl T.m_least_level T.F_least_level.kp T.b_least_level .nil passE0 (pa_cons (pv 0) (pa_cons (pv 4) pa_nil))) (pa_cons (pe_call G_least_level (hr.mono (by decide)) rfl T.m_least_level T.F_least_level.kp T.b_least_level .nil passE0 (pa_cons (pv 0) (pa_cons (pe_ix (ixlK (K := K) rfl) (pv 2) (pe_un un_neg pe_int) (fun _ _ => rfl)) pa_nil))) pa_nil))))))) (pss_one (ps_set (i := 4) sc_pooled.nd rfl (Or.inl rfl) (pe_op (catSK (K := K) rfl) (pe_bm0 PySem.F.plainAttrs_list PySem.F.slot_list_pop PySem.F.type_list_pop mt_pop (pv 2)) (pv 4)))))
      (pss_one (ps_expr (pe_bm PySem.F.plainAttrs_list PySem.F.slot_list_append PySem.F.type_list_append mt_append (pv 2) (pa_cons (pv 4) pa_nil)))))))
      (pss_one (ps_ret (pv 2))))), _, (sv_seq (sv_setO 2 (ov_lst ae_nil (by decide)))
      (sv_seq (sv_for (is_list (ev_var 1)) (gv_name 3)
        (sv_seq (sv_frzE 4 (sv_setO 4 (ov_lst (ae_cons (ev_var 3) ae_nil) (by decide))))
      (sv_seq (sv_while (tv_and (tv_test (bv_ev (ev_op ro_b0 (bv_ev (ev_cb rb_len (av_cons (bv_var 2) av_nil))) (bv_ev ev_int)))) (tv_b (bv_ev (ev_call0 (av_cons (bv_ev (ev_call0 (av_cons (bv_var 0) (av_cons (bv_var 4) av_nil)))) (av_cons (bv_ev (ev_call0 (av_cons (bv_var 0) (av_cons (bv_ev (ev_ixl (lv_var 2) (bv_ev (ev_k (v := (-1)) (ev_neg (bv_ev ev_int)) (fun ex δ Q h => Eq.mpr (congrArg (fun z => Q (.int z)) (by decide +kernel : ((-1) : Int) = -1)) h))))) av_nil)))) av_nil)))))) (sv_frzE 4 (sv_popcat 2 4 (by decide))))
      (sv_app 2 (ev_var 4)))))
      (sv_frz 2 (sv_retV 2)))), ?_⟩
  rintro ds Q X ⟨kd, ms, L, rfl, hkd, n60, L0, L1, hc, hw, k⟩
  have hkk : kd ∈ kdsL := by rcases hkd with rfl | rfl <;> simp [kdsL]
  have call : ∀ {B : List Mk}, B ≠ [] → (∀ z ∈ B, z ∈ ms) → B.length ≤ 60 → (∀ m ∈ B, Cm L (10 ^ 100) m.2.1) ∧ (∀ m ∈ B, 1 ≤ m.2.2 ∧ m.2.2 ≤ 10 ^ 100) ∧ ∀ x, LevelOk kd B x → levF kd B = x ∧ Ok x := fun {B} hne hm hl =>
    ⟨fun m h => hc m (hm m h), fun m h => hw m (hm m h), fun x hx => ⟨levF_eq hkd hne (fun m h => (hw m (hm m h)).1) hx, lev_ok hkk hx hne hl L0 L1 (fun m h => hc m (hm m h)) fun m h => hw m (hm m h)⟩⟩
  walk_at "s"
  refine seq_mk (for_map mk3 ms (fun Q h => by walk_at "d"; exact h)
    (fun i δ => ∃ t1 t2 : Option Sl, δ = [some (.dat (.str kd)), some (.dat (.list (ms.map mk3))), some (.own ((poolN (levF kd) (ms.take i)).reverse.map encB)), t1, t2] ∧ (∀ B ∈ poolN (levF kd) (ms.take i), B ≠ [] ∧ ∀ z ∈ B, z ∈ ms) ∧ (poolN (levF kd) (ms.take i)).flatten.length ≤ i)
    ⟨_, _, rfl, (fun B h => nomatch h), Nat.le_refl _⟩ ?_ ?_)
  · rintro i m δ hi ⟨t1, t2, rfl, hB, hn⟩
    have hi2 : i < ms.length := (List.getElem?_eq_some_iff.mp hi).1
    have hm : m ∈ ms := List.mem_of_getElem? hi
    have et : ms.take (i + 1) = ms.take i ++ [m] := by rw [List.take_add_one, hi]; rfl
    rw [et, poolN_snoc]
    generalize poolN (levF kd) (ms.take i) = st0 at *
    walk_at "s"
    have P0 : Pst ms (i + 1) st0 [m] := ⟨hB, ⟨by simp, fun z hz => by rw [List.mem_singleton.mp hz]; exact hm⟩, by rw [List.length_singleton]; omega⟩
    refine seq_mk ⟨fun f δ => ∃ (st : List (List Mk)) (blk : List Mk), δ = [some (.dat (.str kd)), some (.dat (.list (ms.map mk3))), some (.own (st.reverse.map encB)), some (.dat (mk3 m)), some (.dat (.list (blk.map mk3)))] ∧ f = st.length ∧ Pst ms (i + 1) st blk ∧ pool1 (levF kd) st blk = pool1 (levF kd) st0 [m],
      ⟨_, st0, [m], rfl, rfl, P0, rfl⟩, ?_⟩
    rintro f δ ⟨st, blk, rfl, rfl, PS, ep⟩
    have fin : (∀ B ∈ pool1 (levF kd) st0 [m], B ≠ [] ∧ ∀ z ∈ B, z ∈ ms) ∧ (pool1 (levF kd) st0 [m]).flatten.length ≤ i + 1 := pool1_all P0
    have sl : st.length ≤ st.flatten.length := by
      have hs := PS.s
      clear ep PS
      induction st with
      | nil => exact Nat.zero_le _
      | cons b st ih =>
        have h1 := List.length_pos_iff.mpr (hs b List.mem_cons_self).1
        have := ih fun B hB => hs B (List.mem_cons_of_mem _ hB)
        rw [List.length_cons, List.flatten_cons, List.length_append]; omega
    have pn := PS.n
    cases st with
    | nil =>
      walk_at "d"
      rw [if_neg (by decide)]
      rw [← ep] at fin ⊢
      exact ⟨by decide, _, _, by rw [pool1]; rfl, fin.1, fin.2⟩
    | cons b st =>
      have eb : (b :: st).reverse.map encB = st.reverse.map encB ++ [encB b] := by rw [List.reverse_cons, List.map_append]; rfl
      obtain ⟨bne, bm⟩ := PS.s b List.mem_cons_self
      obtain ⟨kne, km⟩ := PS.b
      rw [List.flatten_cons, List.length_append] at pn
      obtain ⟨c1, c2, c3⟩ := call kne km (by omega)
      obtain ⟨d1, d2, d3⟩ := call bne bm (by omega)
      rw [eb]
      walk_at "d"
      rw [if_pos (by rw [List.length_append, List.length_singleton]; omega)]
      refine ⟨kd, blk, L, rfl, hkk, List.length_pos_iff.mpr kne, by omega, L0, L1, c1, c2, fun x hx => ⟨rfl, ?_⟩⟩
      obtain ⟨rfl, ox⟩ := c3 x hx
      refine ⟨_, atI_last _ _, kd, b, L, rfl, hkk, List.length_pos_iff.mpr bne, by omega, L0, L1, d1, d2, fun y hy => ⟨rfl, ?_⟩⟩
      obtain ⟨rfl, oy⟩ := d3 y hy
      refine ⟨levF kd blk, levF kd b, rfl, ox, oy, ?_⟩
      walk_at "d"
      refine ite2 (fun c => ?_) (fun c => ?_)
      · refine ⟨st.reverse.map encB, b.map mk3, rfl, by rw [List.length_map]; omega, st.length, by omega, st, b ++ blk, by rw [List.map_append], rfl, ⟨fun B hB => PS.s B (List.mem_cons_of_mem _ hB), ⟨by simp [bne], fun z hz => ?_⟩, by rw [List.length_append]; omega⟩, ?_⟩
        · rcases List.mem_append.mp hz with q | q
          · exact bm z q
          · exact km z q
        · rw [← ep, pool1, if_pos c]
      · rw [← ep] at fin ⊢
        rw [pool1, if_neg c] at fin ⊢
        refine ⟨?_, some (.dat (mk3 m)), some (.dat (.list (blk.map mk3))), ?_, fin.1, fin.2⟩
        · rw [List.length_append, List.length_map, List.length_reverse, List.length_singleton]
          rw [List.length_cons, List.flatten_cons, List.length_append] at sl
          omega
        · rw [List.reverse_cons, List.reverse_cons, List.map_append, List.map_append]
          rfl
  · rintro δ ⟨t1, t2, rfl, hB, hn⟩
    rw [List.take_length]
    walk_at "d"
    exact k
end
theorem levF_sq {A : List Mk} (hne : A ≠ []) (hw : ∀ m ∈ A, 1 ≤ m.2.2) : levF "square" A = levQ A := by
  refine levF_eq (.inr rfl) hne hw ⟨fun e => absurd e (by decide), fun e => absurd e (by decide), fun _ => ?_⟩
  unfold levQ
  rw [wsum_tot]; rfl
theorem levF_sq_ok (A : List Mk) (hne : A ≠ []) (hw : ∀ z ∈ A, 1 ≤ z.2.2) : GeS A (levF "square" A) ∧ LeS A (levF "square" A) := by
  rw [levF_sq hne hw]
  exact levQ_ok A hne hw
noncomputable def plQ (lev : List Mk → Rat) (B : List Mk) : List Rat := B.map fun m => (m.2.2 : Rat) * (m.2.1 - lev B)
theorem wmiss_app {A B : List Mk} {r s : List Rat} (h : A.length = r.length) : wmissR (A ++ B) (r ++ s) = wmissR A r ++ wmissR B s := by
  unfold wmissR missR
  rw [List.zipWith_append h, List.zipWith_append (by rw [List.length_zipWith]; omega)]
theorem wmiss_lay (lev : List Mk → Rat) : ∀ bs : List (List Mk), wmissR bs.flatten (lay lev bs) = (bs.map (plQ lev)).flatten
  | [] => rfl
  | B :: bs => by
    have ih := wmiss_lay lev bs
    have e1 : lay lev (B :: bs) = List.replicate B.length (lev B) ++ lay lev bs := rfl
    rw [e1, List.flatten_cons, wmiss_app (by simp), ih, wmiss_rep]
    rfl
noncomputable def prodW : List (List Mk) → Nat
  | [] => 1
  | B :: bs => (wsum B).toNat * prodW bs
theorem prodW_dvd {B : List Mk} : ∀ {bs : List (List Mk)}, B ∈ bs → (wsum B).toNat ∣ prodW bs
  | A :: bs, h => by
    rcases List.mem_cons.mp h with rfl | h
    · exact Nat.dvd_mul_right _ _
    · exact Nat.dvd_trans (prodW_dvd h) (Nat.dvd_mul_left _ _)
theorem prodW_pos : ∀ {bs : List (List Mk)}, (∀ B ∈ bs, B ≠ [] ∧ ∀ m ∈ B, 1 ≤ m.2.2) → 0 < prodW bs
  | [], _ => Nat.one_pos
  | B :: bs, h => by
    have hb := h B List.mem_cons_self
    have := wsum_pos hb.1 hb.2
    exact Nat.mul_pos (by omega) (prodW_pos fun A hA => h A (List.mem_cons_of_mem _ hA))
theorem prodW_le {W : Nat} : ∀ {bs : List (List Mk)}, (∀ B ∈ bs, (wsum B).toNat ≤ W) → prodW bs ≤ W ^ bs.length
  | [], _ => Nat.le_refl _
  | B :: bs, h => by
    rw [prodW, List.length_cons, Nat.pow_succ, Nat.mul_comm]
    exact Nat.mul_le_mul (prodW_le fun A hA => h A (List.mem_cons_of_mem _ hA)) (h B List.mem_cons_self)
structure HoldR (row pulls : List Rat) : Prop where
  up : ∀ i, i + 1 < row.length → row.getD i 0 ≤ row.getD (i + 1) 0
  nn : ∀ i, i < row.length → 0 ≤ tot (pulls.take (i + 1))
  zr : ∀ i, i < row.length → 0 < tot (pulls.take (i + 1)) → i + 1 < row.length ∧ row.getD (i + 1) 0 = row.getD i 0
theorem holdR_of {row pulls : List Rat} (h1 : ∀ i, i + 1 < row.length → row.getD i 0 ≤ row.getD (i + 1) 0)
    (h2 : ∀ i, i < row.length → 0 ≤ tot (pulls.take (i + 1)) ∧ (i + 1 = row.length ∨ row.getD (i + 1) 0 ≠ row.getD i 0 → tot (pulls.take (i + 1)) = 0)) : HoldR row pulls := by
  refine ⟨h1, fun i hi => (h2 i hi).1, fun i hi hp => ?_⟩
  have h3 := (h2 i hi).2
  refine ⟨?_, ?_⟩
  · rcases Nat.lt_or_ge (i + 1) row.length with c | c
    · exact c
    · rw [h3 (.inl (by omega))] at hp; exact absurd hp (by decide)
  · exact Classical.byContradiction fun c => by rw [h3 (.inr c)] at hp; exact absurd hp (by decide)
structure BlkOk (kd : Str) (ms : List Mk) (bs : List (List Mk)) : Prop where
  all : bs.flatten = ms
  ne : ∀ B ∈ bs, B ≠ []
  mem : ∀ B ∈ bs, ∀ z ∈ B, z ∈ ms
  len : bs.length ≤ ms.length
theorem blocks_len : ∀ {bs : List (List Mk)}, (∀ B ∈ bs, B ≠ []) → bs.length ≤ bs.flatten.length
  | [], _ => Nat.le_refl _
  | B :: bs, h => by
    have h1 := List.length_pos_iff.mpr (h B List.mem_cons_self)
    have h2 := blocks_len (bs := bs) fun A hA => h A (List.mem_cons_of_mem _ hA)
    rw [List.length_cons, List.flatten_cons, List.length_append]; omega
structure SqFacts (ms : List Mk) (row pulls : List Rat) : Prop where
  len : row.length = ms.length
  pl : pulls = wmissR ms row
  hold : HoldR row pulls
  mid : ∀ q ∈ row, (∃ m ∈ ms, q ≤ m.2.1) ∧ ∃ m ∈ ms, m.2.1 ≤ q
theorem sq_blocks {ms : List Mk} (hw : ∀ m ∈ ms, 1 ≤ m.2.2) : Stk GeS LeS (levF "square") (poolN (levF "square") ms) ∧ (poolN (levF "square") ms).reverse.flatten = ms := by
  have := poolN_ok lv_sq (lev := levF "square") levF_sq_ok hw ms.length (Nat.le_refl _)
  rw [List.take_length] at this
  exact this
theorem sq_facts {ms : List Mk} (hw : ∀ m ∈ ms, 1 ≤ m.2.2) : SqFacts ms (lay (levF "square") (poolN (levF "square") ms).reverse) (wmissR ms (lay (levF "square") (poolN (levF "square") ms).reverse)) := by
  obtain ⟨S, e⟩ := sq_blocks hw
  generalize hb : (poolN (levF "square") ms).reverse = bs at *
  have Sb : ∀ B ∈ bs, Blk GeS LeS B (levF "square" B) := fun B hB => S.blk B (by rw [← hb] at hB; exact List.mem_reverse.mp hB)
  have up : bs.Pairwise fun A B => levF "square" A ≤ levF "square" B := by
    rw [← hb, List.pairwise_reverse]
    exact S.up
  have ep : wmissR ms (lay (levF "square") bs) = (bs.map (plQ (levF "square"))).flatten := by rw [← e]; exact wmiss_lay _ bs
  obtain ⟨h1, h2, h3⟩ := lay_holds (levF "square") (plQ (levF "square")) (bs := bs) (fun B hB => ⟨(Sb B hB).ne, by simp [plQ], by
    have := up0_sq (B := B) (by rw [← levF_sq (Sb B hB).ne (Sb B hB).w]; exact Sb B hB)
    unfold plQ
    rw [levF_sq (Sb B hB).ne (Sb B hB).w]
    exact this⟩) up
  refine ⟨by rw [lay_len, e], rfl, ?_, fun q hq => ?_⟩
  · rw [ep]
    exact holdR_of h1 h2
  · obtain ⟨B, hB, hne, rfl⟩ := lay_mem hq
    have sub : ∀ z ∈ B, z ∈ ms := fun z hz => by rw [← e]; exact List.mem_flatten.mpr ⟨B, hB, hz⟩
    obtain ⟨m, hm, h⟩ := exc_pos_mem (Sb B hB).w hne (Sb B hB).ge.2
    obtain ⟨m', hm', h'⟩ := exc_neg_mem (Sb B hB).w hne (Sb B hB).le.2
    exact ⟨⟨m, sub m hm, h⟩, ⟨m', sub m' hm', h'⟩⟩
theorem lay_cm {kd : Str} {ms : List Mk} {bs : List (List Mk)} {L B : Nat} (hk : kd = "sum" ∨ kd = "square") (hx : ∀ A : List Mk, A ≠ [] → (∀ m ∈ A, 1 ≤ m.2.2) → ∃ x, LevelOk kd A x) (e : bs.flatten = ms) (hne : ∀ A ∈ bs, A ≠ []) (hw : ∀ m ∈ ms, 1 ≤ m.2.2) (hc : ∀ m ∈ ms, Cm L B m.2.1) :
    ∀ q ∈ lay (levF kd) bs, Cm (2 * L * prodW bs) B q := fun q hq => by
  obtain ⟨A, hA, _, rfl⟩ := lay_mem hq
  have sub : ∀ z ∈ A, z ∈ ms := fun z hz => by rw [← e]; exact List.mem_flatten.mpr ⟨A, hA, hz⟩
  obtain ⟨x, h⟩ := hx A (hne A hA) fun m hm => hw m (sub m hm)
  have ex := levF_eq hk (hne A hA) (fun m hm => hw m (sub m hm)) h
  rw [ex]
  have hkk : kd ∈ kdsL := by rcases hk with rfl | rfl <;> simp [kdsL]
  exact (level_cm hkk h (hne A hA) (fun m hm => hc m (sub m hm)) fun m hm => hw m (sub m hm)).mono (Nat.mul_dvd_mul_left _ (prodW_dvd hA)) (Nat.le_refl _)
theorem prodW_ms {ms : List Mk} {bs : List (List Mk)} {W N : Nat} (e : bs.flatten = ms) (hne : ∀ A ∈ bs, A ≠ []) (hw : ∀ m ∈ ms, 1 ≤ m.2.2 ∧ m.2.2 ≤ (W : Int)) (hl : ms.length ≤ N) (hN : 1 ≤ N * W) : 0 < prodW bs ∧ prodW bs ≤ (N * W) ^ N := by
  have sub : ∀ A ∈ bs, ∀ z ∈ A, z ∈ ms := fun A hA z hz => by rw [← e]; exact List.mem_flatten.mpr ⟨A, hA, hz⟩
  refine ⟨prodW_pos fun A hA => ⟨hne A hA, fun m hm => (hw m (sub A hA m hm)).1⟩, ?_⟩
  have h1 : ∀ A ∈ bs, (wsum A).toNat ≤ N * W := fun A hA => by
    have a := wsum_le (W := (W : Int)) fun m hm => (hw m (sub A hA m hm)).2
    have b : A.length ≤ ms.length := by
      rw [← e]
      clear e hw hl hN hne
      induction bs with
      | nil => exact nomatch hA
      | cons C bs ih =>
        rw [List.flatten_cons, List.length_append]
        rcases List.mem_cons.mp hA with rfl | hA
        · omega
        · have := ih (fun A hA z hz => sub A (List.mem_cons_of_mem _ hA) z hz) hA; omega
    have c : (A.length : Int) * (W : Int) ≤ (N : Int) * (W : Int) := Int.mul_le_mul_of_nonneg_right (by omega) (by omega)
    have d : (N : Int) * (W : Int) = ((N * W : Nat) : Int) := by rw [Int.natCast_mul]
    omega
  have h2 : bs.length ≤ N := by have := blocks_len hne; rw [e] at this; omega
  exact Nat.le_trans (prodW_le h1) (Nat.pow_le_pow_right hN h2)
theorem list_min {p : Rat → Prop} : ∀ {l : List Rat}, (∃ a ∈ l, p a) → ∃ a ∈ l, p a ∧ ∀ b ∈ l, p b → a ≤ b
  | [], h => by obtain ⟨a, h, _⟩ := h; exact nomatch h
  | c :: l, h => by
    by_cases hl : ∃ a ∈ l, p a
    · obtain ⟨a, ha, pa, hm⟩ := list_min hl
      by_cases hc : p c ∧ c < a
      · refine ⟨c, List.mem_cons_self, hc.1, fun b hb pb => ?_⟩
        rcases List.mem_cons.mp hb with rfl | hb
        · exact Rat.le_refl
        · have := hm b hb pb; have := hc.2; grind
      · refine ⟨a, List.mem_cons_of_mem _ ha, pa, fun b hb pb => ?_⟩
        rcases List.mem_cons.mp hb with rfl | hb
        · exact Rat.not_lt.mp fun z => hc ⟨pb, z⟩
        · exact hm b hb pb
    · obtain ⟨a, ha, pa⟩ := h
      rcases List.mem_cons.mp ha with rfl | ha
      · refine ⟨a, List.mem_cons_self, pa, fun b hb pb => ?_⟩
        rcases List.mem_cons.mp hb with rfl | hb
        · exact Rat.le_refl
        · exact absurd ⟨b, hb, pb⟩ hl
      · exact absurd ⟨a, ha, pa⟩ hl
theorem list_max {p : Rat → Prop} : ∀ {l : List Rat}, (∃ a ∈ l, p a) → ∃ a ∈ l, p a ∧ ∀ b ∈ l, p b → b ≤ a
  | [], h => by obtain ⟨a, h, _⟩ := h; exact nomatch h
  | c :: l, h => by
    by_cases hl : ∃ a ∈ l, p a
    · obtain ⟨a, ha, pa, hm⟩ := list_max hl
      by_cases hc : p c ∧ a < c
      · refine ⟨c, List.mem_cons_self, hc.1, fun b hb pb => ?_⟩
        rcases List.mem_cons.mp hb with rfl | hb
        · exact Rat.le_refl
        · have := hm b hb pb; have := hc.2; grind
      · refine ⟨a, List.mem_cons_of_mem _ ha, pa, fun b hb pb => ?_⟩
        rcases List.mem_cons.mp hb with rfl | hb
        · exact Rat.not_lt.mp fun z => hc ⟨pb, z⟩
        · exact hm b hb pb
    · obtain ⟨a, ha, pa⟩ := h
      rcases List.mem_cons.mp ha with rfl | ha
      · refine ⟨a, List.mem_cons_self, pa, fun b hb pb => ?_⟩
        rcases List.mem_cons.mp hb with rfl | hb
        · exact Rat.le_refl
        · exact absurd ⟨b, hb, pb⟩ hl
      · exact absurd ⟨a, ha, pa⟩ hl
theorem wle_all {x : Rat} : ∀ {A : List Mk}, (∀ h ∈ hgts A, h ≤ x) → wle x A = wsum A
  | [], _ => rfl
  | m :: A, h => by
    have i := wle_all (A := A) fun y hy => h y (List.mem_cons_of_mem _ hy)
    have h1 : m.2.1 ≤ x := h m.2.1 List.mem_cons_self
    rw [wle, wsum, i, if_pos h1]
theorem wlt_none {x : Rat} : ∀ {A : List Mk}, (∀ h ∈ hgts A, ¬ h < x) → wlt x A = 0
  | [], _ => rfl
  | m :: A, h => by
    have i := wlt_none (A := A) fun y hy => h y (List.mem_cons_of_mem _ hy)
    have h1 : ¬ m.2.1 < x := h m.2.1 List.mem_cons_self
    rw [wlt, i, if_neg h1]; rfl
theorem wlt_wle {x y : Rat} (hxy : y < x) : ∀ {A : List Mk}, (∀ h ∈ hgts A, h < x → h ≤ y) → wlt x A = wle y A
  | [], _ => rfl
  | m :: A, h => by
    have i := wlt_wle hxy (A := A) fun z hz => h z (List.mem_cons_of_mem _ hz)
    have h1 : m.2.1 < x → m.2.1 ≤ y := h m.2.1 List.mem_cons_self
    rw [wlt, wle, i]
    by_cases c : m.2.1 < x
    · rw [if_pos c, if_pos (h1 c)]
    · rw [if_neg c, if_neg (by grind)]
theorem mid_ex {A : List Mk} (hne : A ≠ []) (hw : Ws A) : ∃ x, Mid ((hgts A).zip (wgts A)) x := by
  have hp := wsum_pos hne hw
  have ne : ∃ a ∈ hgts A, True := by
    cases A with
    | nil => exact absurd rfl hne
    | cons m A => exact ⟨m.2.1, List.mem_cons_self, trivial⟩
  obtain ⟨t, ht, _, tm⟩ := list_max ne
  have hx : ∃ x ∈ hgts A, wsum A ≤ 2 * wle x A := ⟨t, ht, by rw [wle_all fun h hh => tm h hh trivial]; omega⟩
  obtain ⟨x, x1, x2, x3⟩ := list_min hx
  refine ⟨x, ?_, ?_, ?_⟩
  · obtain ⟨m, hm, e⟩ := List.mem_map.mp x1
    obtain ⟨i, hi, rfl⟩ := List.getElem_of_mem hm
    refine ⟨(x, (A[i].2.2 : Rat)), ?_, rfl⟩
    have l1 : (hgts A).length = A.length := by simp [hgts]
    have l2 : (wgts A).length = A.length := by simp [wgts]
    have hz : i < ((hgts A).zip (wgts A)).length := by rw [List.length_zip]; omega
    have := List.getElem_mem hz
    rw [List.getElem_zip] at this
    have e1 : (hgts A)[i] = x := by simp [hgts]; exact e
    have e2 : (wgts A)[i] = (A[i].2.2 : Rat) := by simp [wgts]
    rw [e1, e2] at this
    exact this
  · rw [fsum_lt, zip_w, ← Rat.intCast_add, Rat.intCast_lt_intCast]
    by_cases c : ∃ h ∈ hgts A, h < x
    · obtain ⟨y, y1, y2, y3⟩ := list_max c
      have := wlt_wle y2 y3
      have n : ¬ wsum A ≤ 2 * wle y A := fun z => by have := x3 y y1 z; grind
      omega
    · have := wlt_none (x := x) (A := A) fun h hh z => c ⟨h, hh, z⟩
      omega
  · rw [fsum_le2, zip_w, ← Rat.intCast_add, Rat.intCast_le_intCast]
    omega
theorem levS_ex {A : List Mk} (hne : A ≠ []) (hw : ∀ m ∈ A, 1 ≤ m.2.2) : ∃ x, LevelOk "sum" A x := by
  obtain ⟨x, M⟩ := mid_ex hne hw
  exact ⟨x, fun e => absurd e (by decide), fun _ => M, fun e => absurd e (by decide)⟩
theorem levF_sum_ok (A : List Mk) (hne : A ≠ []) (hw : ∀ z ∈ A, 1 ≤ z.2.2) : GeM A (levF "sum" A) ∧ LeM A (levF "sum" A) := by
  obtain ⟨x, h⟩ := levS_ex hne hw
  rw [levF_eq (.inl rfl) hne hw h]
  exact mid_ge hw (h.sum rfl)
noncomputable def FairS (m : Mk) (x : Rat) (p : Int) : Prop := (0 < m.2.1 - x → p = m.2.2) ∧ (m.2.1 - x < 0 → p = -m.2.2) ∧ -m.2.2 ≤ p ∧ p ≤ m.2.2
theorem early_fair {x : Rat} : ∀ {left : Int} {A : List Mk}, 0 ≤ left → Ws A → ∀ t ∈ A.zip (early x left A), FairS t.1 x t.2
  | left, [], _, _ => fun t h => nomatch h
  | left, m :: A, h, hw => fun t ht => by
    have h1 := hw m List.mem_cons_self
    have u0 : 0 ≤ left - upI x left m := by unfold upI; split <;> (try split) <;> omega
    rw [early, List.zip_cons_cons] at ht
    rcases List.mem_cons.mp ht with rfl | ht
    · unfold FairS fixI upI
      dsimp only
      by_cases c : 0 < m.2.1 - x
      · rw [if_pos c, if_neg (by grind)]
        exact ⟨fun _ => by omega, fun z => by grind, by omega, by omega⟩
      · rw [if_neg c]
        by_cases d : m.2.1 - x = 0
        · rw [if_pos d]
          refine ⟨fun z => absurd z c, fun z => by grind, ?_, ?_⟩ <;> split <;> omega
        · rw [if_neg d]
          exact ⟨fun z => absurd z c, fun _ => by omega, by omega, by omega⟩
    · exact early_fair u0 (fun z hz => hw z (List.mem_cons_of_mem _ hz)) t ht
noncomputable def plI (lev : List Mk → Rat) (B : List Mk) : List Int := early (lev B) (-fixS (lev B) B) B
noncomputable def plM (lev : List Mk → Rat) (B : List Mk) : List Rat := (plI lev B).map fun n : Int => (n : Rat)
noncomputable def pullsI (lev : List Mk → Rat) (bs : List (List Mk)) : List Int := (bs.map (plI lev)).flatten
theorem pullsI_map (lev : List Mk → Rat) : ∀ bs : List (List Mk), (pullsI lev bs).map (fun n : Int => (n : Rat)) = (bs.map (plM lev)).flatten
  | [] => rfl
  | B :: bs => by
    have := pullsI_map lev bs
    unfold pullsI at *
    rw [List.map_cons, List.flatten_cons, List.map_append, this]
    rfl
theorem pullsI_len (lev : List Mk → Rat) : ∀ bs : List (List Mk), (pullsI lev bs).length = bs.flatten.length
  | [] => rfl
  | B :: bs => by
    have := pullsI_len lev bs
    unfold pullsI at *
    rw [List.map_cons, List.flatten_cons, List.length_append, this, List.flatten_cons, List.length_append]
    congr 1
    exact early_len _ _ _
theorem lay_fair {lev : List Mk → Rat} : ∀ {bs : List (List Mk)}, (∀ B ∈ bs, Ws B ∧ fixS (lev B) B ≤ 0) → ∀ t ∈ bs.flatten.zip ((lay lev bs).zip (pullsI lev bs)), FairS t.1 t.2.1 t.2.2
  | [], _ => fun t h => nomatch h
  | B :: bs, hb => fun t ht => by
    have e1 : lay lev (B :: bs) = List.replicate B.length (lev B) ++ lay lev bs := rfl
    have e2 : pullsI lev (B :: bs) = plI lev B ++ pullsI lev bs := rfl
    have l1 : (plI lev B).length = B.length := early_len _ _ _
    rw [e1, e2, List.flatten_cons, List.zip_append (by simp [l1]), List.zip_append (by simp [l1])] at ht
    rcases List.mem_append.mp ht with h | h
    · obtain ⟨h1, h2⟩ := hb B List.mem_cons_self
      obtain ⟨i, hi, rfl⟩ := List.getElem_of_mem h
      rw [List.length_zip, List.length_zip, List.length_replicate] at hi
      rw [List.getElem_zip, List.getElem_zip, List.getElem_replicate]
      have hz : i < (B.zip (plI lev B)).length := by rw [List.length_zip]; omega
      have := early_fair (x := lev B) (left := -fixS (lev B) B) (by omega) h1 _ (List.getElem_mem (l := B.zip (plI lev B)) hz)
      rw [List.getElem_zip] at this
      exact this
    · exact lay_fair (fun A hA => hb A (List.mem_cons_of_mem _ hA)) t h
structure SumFacts (ms : List Mk) (row : List Rat) (ps : List Int) : Prop where
  len : row.length = ms.length
  plen : ps.length = ms.length
  hold : HoldR row (ps.map fun n : Int => (n : Rat))
  fair : ∀ t ∈ ms.zip (row.zip ps), FairS t.1 t.2.1 t.2.2
theorem sum_blocks {ms : List Mk} (hw : ∀ m ∈ ms, 1 ≤ m.2.2) : Stk GeM LeM (levF "sum") (poolN (levF "sum") ms) ∧ (poolN (levF "sum") ms).reverse.flatten = ms := by
  have := poolN_ok lv_sum (lev := levF "sum") levF_sum_ok hw ms.length (Nat.le_refl _)
  rw [List.take_length] at this
  exact this
theorem sum_facts {ms : List Mk} (hw : ∀ m ∈ ms, 1 ≤ m.2.2) : SumFacts ms (lay (levF "sum") (poolN (levF "sum") ms).reverse) (pullsI (levF "sum") (poolN (levF "sum") ms).reverse) := by
  obtain ⟨S, e⟩ := sum_blocks hw
  generalize hb : (poolN (levF "sum") ms).reverse = bs at *
  have Sb : ∀ B ∈ bs, Blk GeM LeM B (levF "sum" B) := fun B hB => S.blk B (by rw [← hb] at hB; exact List.mem_reverse.mp hB)
  have up : bs.Pairwise fun A B => levF "sum" A ≤ levF "sum" B := by
    rw [← hb, List.pairwise_reverse]
    exact S.up
  obtain ⟨h1, h2, h3⟩ := lay_holds (levF "sum") (plM (levF "sum")) (bs := bs) (fun B hB => ⟨(Sb B hB).ne, by unfold plM plI; rw [List.length_map, early_len], up0_sum (Sb B hB)⟩) up
  refine ⟨by rw [lay_len, e], by rw [pullsI_len, e], by rw [pullsI_map]; exact holdR_of h1 h2, ?_⟩
  have := lay_fair (lev := levF "sum") (bs := bs) fun B hB => ⟨(Sb B hB).w, by have := (Sb B hB).le.2; rw [fixS_eq]; omega⟩
  rw [e] at this
  exact this
theorem pair_self {α : Type} (f g : α → PyData) : ∀ xs : List α, pairD (xs.map f) (xs.map g) = xs.map fun x => PyData.tuple [f x, g x]
  | [] => by simp [Dl.pairD]
  | x :: xs => by
    have := pair_self f g xs
    simp [Dl.pairD, this]
theorem tri_self {α : Type} (f g h : α → PyData) : ∀ xs : List α, triD (xs.map f) (xs.map g) (xs.map h) = xs.map fun x => PyData.tuple [f x, g x, h x]
  | [] => by simp [Dl.triD]
  | x :: xs => by
    have := tri_self f g h xs
    simp [Dl.triD, this]
theorem fixS_sum (x : Rat) : ∀ A : List Mk, (A.map (fixI x)).sum = fixS x A
  | [] => rfl
  | m :: A => by rw [List.map_cons, List.sum_cons, fixS_sum x A, fixS]
noncomputable def frI (n : Int) : PyData := fr (n : Rat)
theorem frIs_flat : ∀ ns : List Int, flatDs (ns.map frI) = true
  | [] => rfl
  | n :: ns => by
    have := frIs_flat ns
    simp only [List.map_cons, flatDs, frI, flatD, fr, this, Bool.and_self]
section
variable {P : Program} {w : World} {K : PySem.W.Frag} {mg : Str → Option Value} {base : Heap} {A : Adr}
noncomputable def ok0 : Ok (0 : Rat) := ⟨wee (by decide +kernel), show Wee ((1 : Nat) : Int) from wee (by decide +kernel)⟩
noncomputable def wHt1 : DW := fun ds Q _ => ∃ x p : Rat, ds = [.list [fr x], fr p] ∧ Ok x ∧ Ok p ∧ Q (.dat (fr x))
theorem ok_height_at (T : Txt K mg A) : FnOk P w K mg base (CXE P w) 4 A.a_height_at A.d_height_at ["numbers", "x"] (spW K wHt1) := by
  have G_plus := ok_plus (P := P) (w := w) (base := base) T
  have G_product := ok_product (P := P) (w := w) (base := base) T
  refine okW T.F_height_at sc_height_at (fun ds Q E h => ?_) (fun cdv Ar outer s H E hr => ?_)
  · obtain ⟨_, _, rfl, _⟩ := h; rfl
  refine ⟨_, (pss_cons (ps_set (i := 2) sc_height_at.nd rfl (Or.inl rfl) (pe_glob rfl T.c_NOUGHT (show RelV (.ref _) (.ref _) from rfl)))
      (pss_cons (ps_for PassesOwn.leaving rfl (pi_reversed (K := K) rfl rfl T.n_reversed (pa_cons (pv 0) pa_nil)) (pg_name (i := 3) sc_height_at.nd rfl (Or.inl rfl))
        (pss_one (ps_set (i := 2) sc_height_at.nd rfl (Or.inl rfl) (pe_call G_plus (hr.mono (by decide)) rfl T.m_plus T.F_plus.kp T.b_plus .nil passE0 (pa_cons (pe_call G_product (hr.mono (by decide)) rfl T.m_product T.F_product.kp T.b_product .nil passE0 (pa_cons (pv 2) (pa_cons (pv 1) pa_nil))) (pa_cons (pv 3) pa_nil))))))
      (pss_one (ps_ret (pv 2))))), _, (sv_seq (sv_asg (ev_c T.k_NOUGHT) (gv_name 2))
      (sv_seq (sv_for (is_rev (ev_var 0)) (gv_name 3)
        (sv_asg (ev_call0 (av_cons (bv_ev (ev_call0 (av_cons (bv_var 2) (av_cons (bv_var 1) av_nil)))) (av_cons (bv_var 3) av_nil))) (gv_name 2)))
      (sv_retV 2))), ?_⟩
  rintro ds Q X ⟨x, p, rfl, ox, op, k⟩
  walk_at "s"
  refine seq_mk (for_map fr [x] (fun Q h => by walk_at "d"; exact h)
    (fun i δ => ∃ t : Option Sl, δ = [some (.dat (.list [fr x])), some (.dat (fr p)), some (.dat (fr (if i = 0 then 0 else x))), t]) ⟨_, rfl⟩ ?_ ?_)
  · rintro i y δ hi ⟨t, rfl⟩
    have h0 : i = 0 := by have := (List.getElem?_eq_some_iff.mp hi).1; simpa using this
    subst h0
    have hy : y = x := by simpa using hi.symm
    subst hy
    rw [if_pos rfl]
    walk_at "d"
    refine ⟨0, p, rfl, ok0, op, rfl, ?_⟩
    dsimp only
    rw [Rat.zero_mul]
    refine ⟨0, y, rfl, ok0, ox, ?_⟩
    dsimp only
    rw [Rat.zero_add]
    walk_at "d"
    exact ⟨_, rfl⟩
  · rintro δ ⟨t, rfl⟩
    walk_at "d"
    exact k
noncomputable def wRow1 : DW := fun ds Q _ => ∃ (x : Rat) (ms : List Mk), ds = [.list [fr x], .list (ms.map mk3)] ∧ ms.length ≤ 1000 ∧ Ok x ∧ (∀ m ∈ ms, Ok m.1) ∧ Q (.own ((List.replicate ms.length x).map fr))
theorem ok_row_of (T : Txt K mg A) : FnOk P w K mg base (CXE P w) 5 A.a_row_of A.d_row_of ["numbers", "marks"] (spW K wRow1) := by
  have G_height_at := ok_height_at (P := P) (w := w) (base := base) T
  refine okW T.F_row_of sc_row_of (fun ds Q E h => ?_) (fun cdv Ar outer s H E hr => ?_)
  · obtain ⟨_, _, rfl, _⟩ := h; rfl
  refine ⟨_, (pss_one (ps_ret (pe_lc (cap := [none, some 0]) (NC := ["mark", "numbers"]) rfl ⟨rfl, rfl, by decide +kernel, by decide +kernel, ⟨⟨_, rfl, rfl, rfl, rfl, rfl⟩, trivial⟩, (List.forall_mem_cons.2 ⟨rfl, (fun _ h => nomatch h)⟩), rfl⟩ (pilK (K := K) rfl (pv 1)) (fun _ _ _ _ => (pg_name (i := 0) (show List.Nodup (["mark", "numbers"] : List Str) by decide) rfl (Or.inl rfl))) (fun _ _ _ _ => pts_nil) (fun _ _ _ _ => (pe_call G_height_at (hr.mono (by decide)) rfl T.m_height_at T.F_height_at.kp T.b_height_at .nil passE0 (pa_cons (pv 1) (pa_cons (pe_ix (ixtK (K := K) rfl) (pv 0) pe_int (fun _ _ => rfl)) pa_nil))))))), _, (sv_retO (ov_lc (ie_list (lv_var 1)) (gv_name 0) tv_yes (ev_call0 (av_cons (bv_var 1) (av_cons (bv_ev (ev_ixk 0 (ev_var 0))) av_nil))) (by decide) (by decide))), ?_⟩
  rintro ds Q X ⟨x, ms, rfl, n, ox, op, k⟩
  walk_at "d"
  refine lc_map mk3 fr (fun m : Mk => [x]) ms n (fun Q h => h) (fun m h N acc hN => ?_) ?_
  · walk_at "d"
    refine ⟨x, m.1, rfl, ox, op m h, ?_⟩
    walk_at "d"
    exact hN
  rw [flat_single, List.map_const']
  exact k
noncomputable def wEarly : DW := fun ds Q _ => ∃ (ms : List Mk) (x : Rat), ds = [.list (ms.map mk3), .list (ms.map fun m => fr (m.2.1 - x))] ∧ ms.length ≤ 60 ∧ (∀ m ∈ ms, 1 ≤ m.2.2 ∧ m.2.2 ≤ 10 ^ 100) ∧ Q (.own ((early x (-fixS x ms) ms).map frI))
theorem ok_early_pulls (T : Txt K mg A) : FnOk P w K mg base (CXE P w) 1 A.a_early_pulls A.d_early_pulls ["marks", "misses"] (spW K wEarly) := by
  refine okW T.F_early_pulls sc_early_pulls (fun ds Q E h => ?_) (fun cdv Ar outer s H E hr => ?_)
  · obtain ⟨_, _, rfl, _⟩ := h; rfl
  refine ⟨_, (pss_cons (ps_setLC (i := 2) (cap := [none, none]) (NC := ["mark", "miss"]) sc_early_pulls.nd rfl rfl rfl ⟨rfl, rfl, by decide +kernel, by decide +kernel, trivial, (fun _ h => nomatch h), rfl⟩ (pi_zip (K := K) rfl rfl T.n_zip (pa_cons (pv 0) (pa_cons (pv 1) pa_nil))) (fun _ _ _ _ => (pgtK (K := K) (n := 2) rfl rfl (pgs_cons (pg_name (i := 0) (show List.Nodup (["mark", "miss"] : List Str) by decide) rfl (Or.inl rfl)) (pgs_cons (pg_name (i := 1) (show List.Nodup (["mark", "miss"] : List Str) by decide) rfl (Or.inl rfl)) pgs_nil)))) (fun _ _ _ _ => pts_nil) (fun _ _ _ _ => (pe_ifExp (pt_cmpR op_gt (pe_ix (ixtK (K := K) rfl) (pv 1) pe_int (fun _ _ => rfl)) pe_int (nomark _)) (pe_ix (ixtK (K := K) rfl) (pv 0) pe_int (fun _ _ => rfl)) (pe_un un_neg (pe_ix (ixtK (K := K) rfl) (pv 0) pe_int (fun _ _ => rfl))))))
      (pss_cons (ps_set (i := 3) sc_early_pulls.nd rfl (Or.inl rfl) (pe_un un_neg (pe_callB (sumK (K := K) rfl rfl) rfl T.n_sum bt_sum (pa_cons (pv 2) pa_nil))))
      (pss_cons (ps_set (i := 4) sc_early_pulls.nd rfl (Or.inl rfl) (pe_lst pa_nil))
      (pss_cons (ps_for PassesOwn.leaving rfl (pi_zip3 (K := K) rfl rfl T.n_zip (pa_cons (pv 0) (pa_cons (pv 1) (pa_cons (pv 2) pa_nil)))) (pgtK (K := K) (n := 3) rfl rfl (pgs_cons (pg_name (i := 5) sc_early_pulls.nd rfl (Or.inl rfl)) (pgs_cons (pg_name (i := 6) sc_early_pulls.nd rfl (Or.inl rfl)) (pgs_cons (pg_name (i := 7) sc_early_pulls.nd rfl (Or.inl rfl)) pgs_nil))))
        (pss_cons (ps_set (i := 8) sc_early_pulls.nd rfl (Or.inl rfl) (pe_ifExp (pt_cmpR (eqK (K := K) rfl hr.units) (pv 6) (pe_glob rfl T.c_NOUGHT (show RelV (.ref _) (.ref _) from rfl)) (nomark _)) (pe_callB (call_min2 rfl) rfl T.n_min bt_min (pa_cons (pv 3) (pa_cons (pe_op op_mulB pe_int (pe_ix (ixtK (K := K) rfl) (pv 5) pe_int (fun _ _ => rfl))) pa_nil))) pe_int))
      (pss_cons (ps_set (i := 3) sc_early_pulls.nd rfl (Or.inl rfl) (pe_op op_sub (pv 3) (pv 8)))
      (pss_one (ps_expr (pe_bm PySem.F.plainAttrs_list PySem.F.slot_list_append PySem.F.type_list_append mt_append (pv 4) (pa_cons (pe_tup (pa_cons (pe_op op_add (pv 7) (pv 8)) (pa_cons pe_int pa_nil))) pa_nil)))))))
      (pss_one (ps_ret (pv 4))))))), _, (sv_seq (sv_setO 2 (ov_lc (ie_zip (lv_var 0) (lv_var 1)) (gv_tup (gs_cons (gv_name 0) (gs_cons (gv_name 1) gs_nil))) tv_yes (ev_if (tv_test (bv_ev (ev_op ro_b0 (bv_ev (ev_ixk 0 (ev_var 1))) (bv_ev ev_int)))) (ev_ixk 2 (ev_var 0)) (ev_neg (bv_ev (ev_ixk 2 (ev_var 0))))) (by decide) (by decide)))
      (sv_seq (sv_asg (ev_neg (bv_ev (ev_cb rb_sum (av_cons (bv_var 2) av_nil)))) (gv_name 3))
      (sv_seq (sv_setO 4 (ov_lst ae_nil (by decide)))
      (sv_seq (sv_frz 2 (sv_for (is_zip3 (ev_var 0) (ev_var 1) (ev_var 2)) (gv_tup (gs_cons (gv_name 5) (gs_cons (gv_name 6) (gs_cons (gv_name 7) gs_nil))))
        (sv_cut (sv_asg (ev_if (tv_test (bv_ev (ev_op ro_eqD (bv_var 6) (bv_ev (ev_c T.k_NOUGHT))))) (ev_cb rb_min (av_cons (bv_var 3) (av_cons (bv_ev (ev_op ro_i (bv_ev ev_int) (bv_ev (ev_ixk 2 (ev_var 5))))) av_nil))) ev_int) (gv_name 8))
      (sv_seq (sv_asg (ev_op ro_i0 (bv_var 3) (bv_var 8)) (gv_name 3))
      (sv_app 4 (ev_tup (ae_cons (ev_op ro_i0 (bv_var 7) (bv_var 8)) (ae_cons ev_int ae_nil)) (by decide)))))))
      (sv_retV 4))))), ?_⟩
  rintro ds Q X ⟨ms, x, rfl, n60, hw, k⟩
  walk_at "s"
  refine lc_map (fun m : Mk => PyData.tuple [mk3 m, fr (m.2.1 - x)]) PyData.int (fun m : Mk => [fixI x m]) ms (by omega) (fun Q h => by
      walk_at "d"
      rw [pair_self]; exact h) (fun m h N acc hN => ?_) ?_
  · walk_at "d"
    unfold fixI at hN
    refine ite2 (fun c => ?_) (fun c => ?_)
    · rw [if_pos ((num_pos_iff _).mp c)] at hN
      exact hN
    · rw [if_neg (fun z => c ((num_pos_iff _).mpr z))] at hN
      exact hN
  rw [flat_single]
  walk_at "s"
  refine ⟨ms.map (fixI x), rfl, ?_⟩
  rw [fixS_sum]
  walk_at "s"
  generalize hL : -fixS x ms = L0 at *
  refine seq_mk (for_map (fun m : Mk => PyData.tuple [mk3 m, fr (m.2.1 - x), .int (fixI x m)]) ms (fun Q h => by
      walk_at "d"
      rw [List.map_map, tri_self]; exact h)
    (fun i δ => ∃ (left : Int) (ps : List Int) (t1 t2 t3 t4 : Option Sl), δ = [some (.dat (.list (ms.map mk3))), some (.dat (.list (ms.map fun m => fr (m.2.1 - x)))), some (.dat (.list ((ms.map (fixI x)).map .int))), some (.dat (.int left)), some (.own (ps.map frI)), t1, t2, t3, t4] ∧ early x L0 ms = ps ++ early x left (ms.drop i) ∧ ps.length = i)
    ⟨L0, [], _, _, _, _, rfl, rfl, rfl⟩ ?_ ?_)
  · rintro i m δ hi ⟨left, ps, t1, t2, t3, t4, rfl, he, hl⟩
    have hi2 := (List.getElem?_eq_some_iff.mp hi).1
    have hm := hw m (List.mem_of_getElem? hi)
    have ed : ms.drop i = m :: ms.drop (i + 1) := by
      rw [List.drop_eq_getElem_cons hi2]
      congr 1
      exact (List.getElem?_eq_some_iff.mp hi).2
    rw [ed, early] at he
    obtain ⟨u, hu⟩ : ∃ u, upI x left m = u := ⟨_, rfl⟩
    rw [hu] at he
    walk_at "d"
    refine cut_mk (fun δ => δ = [some (.dat (.list (ms.map mk3))), some (.dat (.list (ms.map fun m => fr (m.2.1 - x)))), some (.dat (.list ((ms.map (fixI x)).map .int))), some (.dat (.int left)), some (.own (ps.map frI)), some (.dat (mk3 m)), some (.dat (fr (m.2.1 - x))), some (.dat (.int (fixI x m))), some (.dat (.int u))]) ?_ ?_
    · walk_at "d"
      refine ⟨Rat, eRat, m.2.1 - x, 0, rfl, rfl, fun b hb => ?_⟩
      unfold upI at hu
      cases b with
      | true =>
        rw [if_pos (hb.mp rfl)] at hu
        walk_at "d"
        refine ⟨mulOk (wee (by decide +kernel)) (weeLe (n := 10 ^ 100) (by omega) (by decide +kernel)), ?_⟩
        rw [hu]
      | false =>
        rw [if_neg (fun z => by have := hb.mpr z; cases this)] at hu
        walk_at "d"
        rw [hu]
    rintro δ rfl
    walk_at "s"
    refine ⟨by omega, left - u, ps ++ [fixI x m + u], _, _, _, _, by rw [List.map_append]; rfl, by rw [he, List.append_assoc]; rfl, by rw [List.length_append, hl]; rfl⟩
  · rintro δ ⟨left, ps, t1, t2, t3, t4, rfl, he, hl⟩
    rw [List.drop_length, early, List.append_nil] at he
    walk_at "d"
    rw [← he]
    exact k
noncomputable def wLevS : DW := fun ds Q _ => ∃ (ms : List Mk) (L : Nat), ds = [.list (ms.map mk3)] ∧ 1 ≤ ms.length ∧ ms.length ≤ 60 ∧ 0 < L ∧ L ≤ 10 ^ 100 ∧ (∀ m ∈ ms, Cm L (10 ^ 100) m.2.1) ∧ (∀ m ∈ ms, 1 ≤ m.2.2 ∧ m.2.2 ≤ 10 ^ 100) ∧ (∀ m ∈ ms, Ok m.1) ∧
  ∀ x, LevelOk "sum" ms x → Q (.dat (.tuple [.list [fr x], .list ((early x (-fixS x ms) ms).map frI)]))
theorem ok_level_sum (T : Txt K mg A) : FnOk P w K mg base (CXE P w) 6 A.a_level_sum A.d_level_sum ["marks"] (spW K wLevS) := by
  have G_least_level := ok_least_level (P := P) (w := w) (base := base) T
  have G_row_of := ok_row_of (P := P) (w := w) (base := base) T
  have G_misses_of := ok_misses_of (P := P) (w := w) (base := base) T
  have G_early_pulls := ok_early_pulls (P := P) (w := w) (base := base) T
  refine okW T.F_level_sum sc_level_sum (fun ds Q E h => ?_) (fun cdv Ar outer s H E hr => ?_)
  · obtain ⟨_, _, rfl, _⟩ := h; rfl
  refine ⟨_, (pss_cons (ps_set (i := 1) sc_level_sum.nd rfl (Or.inl rfl) (pe_lst (pa_cons (pe_call G_least_level (hr.mono (by decide)) rfl T.m_least_level T.F_least_level.kp T.b_least_level .nil passE0 (pa_cons pe_str (pa_cons (pv 0) pa_nil))) pa_nil)))
      (pss_cons (ps_set (i := 2) sc_level_sum.nd rfl (Or.inl rfl) (pe_call G_misses_of (hr.mono (by decide)) rfl T.m_misses_of T.F_misses_of.kp T.b_misses_of .nil passE0 (pa_cons (pv 0) (pa_cons (pe_call G_row_of (hr.mono (by decide)) rfl T.m_row_of T.F_row_of.kp T.b_row_of .nil passE0 (pa_cons (pv 1) (pa_cons (pv 0) pa_nil))) pa_nil))))
      (pss_one (ps_ret (pe_tup (pa_cons (pv 1) (pa_cons (pe_call G_early_pulls (hr.mono (by decide)) rfl T.m_early_pulls T.F_early_pulls.kp T.b_early_pulls .nil passE0 (pa_cons (pv 0) (pa_cons (pv 2) pa_nil))) pa_nil))))))), _, (sv_seq (sv_setO 1 (ov_lst (ae_cons (ev_call0 (av_cons (bv_ev ev_str) (av_cons (bv_var 0) av_nil))) ae_nil) (by decide)))
      (sv_seq (sv_setO 2 (ov_call0 (av_cons (bv_var 0) (av_cons (bv_ev (ev_ov (ov_call0 (av_cons (bv_var 1) (av_cons (bv_var 0) av_nil))))) av_nil))))
      (sv_frz 1 (sv_ret (bv_ev (ev_tup (ae_cons (ev_var 1) (ae_cons (ev_ov (ov_call0 (av_cons (bv_var 0) (av_cons (bv_var 2) av_nil)))) ae_nil)) (by decide))))))), ?_⟩
  rintro ds Q X ⟨ms, L, rfl, n1, n60, L0, L1, hc, hw, hp, k⟩
  have hne : ms ≠ [] := List.length_pos_iff.mp n1
  walk_at "s"
  refine ⟨"sum", ms, L, rfl, by simp [kdsL], n1, n60, L0, L1, hc, hw, fun x hx => ?_⟩
  have ox : Ok x := lev_ok (by simp [kdsL]) hx hne n60 L0 L1 hc hw
  have oh : ∀ m ∈ ms, Ok m.2.1 := fun m h => dgOk ((hc m h).dg L0 L1 (b := 100) (Nat.le_refl _)) (by decide)
  walk_at "d"
  walk_at "s"
  refine ⟨x, ms, rfl, by omega, ox, hp, ?_⟩
  walk_at "d"
  refine ⟨frs_flat _, ?_⟩
  refine ⟨ms, List.replicate ms.length x, rfl, by omega, oh, fun q hq => by rw [List.eq_of_mem_replicate hq]; exact ox, ?_⟩
  walk_at "d"
  refine ⟨frs_flat _, ?_⟩
  rw [miss_rep, List.map_map]
  walk_at "d"
  refine ⟨ms, x, rfl, n60, hw, ?_⟩
  walk_at "d"
  exact ⟨frIs_flat _, k x hx⟩
end
noncomputable def pkB (h : Nat → Rat) : Nat → Nat
  | 0 => 0
  | i + 1 => if h (pkB h i) < h i then i else pkB h i
noncomputable def pk (h : Nat → Rat) (i : Nat) : Nat := pkB h (i + 1)
theorem pkB_le (h : Nat → Rat) : ∀ i, pkB h i ≤ i
  | 0 => Nat.le_refl _
  | i + 1 => by
    have := pkB_le h i
    unfold pkB
    split <;> omega
theorem pk_le (h : Nat → Rat) (i : Nat) : pk h i ≤ i := by
  unfold pk pkB
  have := pkB_le h i
  split <;> omega
theorem pk_top (h : Nat → Rat) : ∀ i j, j ≤ i → h j ≤ h (pk h i)
  | 0, j, hj => by
    have : j = 0 := by omega
    subst this
    have e : pk h 0 = 0 := by unfold pk pkB pkB; split <;> rfl
    rw [e]; exact Rat.le_refl
  | i + 1, j, hj => by
    have ih := pk_top h i
    unfold pk
    rw [pkB]
    show h j ≤ h (if h (pk h i) < h (i + 1) then i + 1 else pk h i)
    split
    · by_cases e : j = i + 1
      · rw [e]; exact Rat.le_refl
      · have := ih j (by omega); grind
    · by_cases e : j = i + 1
      · rw [e]; exact Rat.not_lt.mp ‹_›
      · exact ih j (by omega)
theorem pk_self (h : Nat → Rat) (i : Nat) : h (pk h (pk h i)) = h (pk h i) := by
  refine Rat.le_antisymm (pk_top h i _ ?_) (pk_top h (pk h i) _ (Nat.le_refl _))
  have := pk_le h i
  have := pk_le h (pk h i)
  omega
theorem pk_mono (h : Nat → Rat) {i j : Nat} (hij : i ≤ j) : h (pk h i) ≤ h (pk h j) := pk_top h j _ (Nat.le_trans (pk_le h i) hij)
noncomputable def dropF (h : Nat → Rat) (i : Nat) : Rat := h (pk h i) - h i
theorem drop_nn (h : Nat → Rat) (i : Nat) : 0 ≤ dropF h i := by
  have := pk_top h i i (Nat.le_refl _)
  unfold dropF
  grind
theorem enumD_map {α : Type} (f : α → PyData) : ∀ (k : Nat) (xs : List α), enumD k (xs.map f) = (xs.zipIdx k).map fun p => PyData.tuple [.int (p.2 : Int), f p.1]
  | _, [] => rfl
  | k, x :: xs => by
    have := enumD_map f (k + 1) xs
    simp [Dl.enumD, this]
section
variable {P : Program} {w : World} {K : PySem.W.Frag} {mg : Str → Option Value} {base : Heap} {A : Adr}
theorem atI_rt {qs : List Rat} {k : Int} {j : Nat} (e : k = (j : Int)) (h : j < qs.length) : atI (qs.map fr) k = some (fr (qs.getD j 0)) := by
  rw [atI_mk (xs := qs) fr (by omega) (by omega), e, Int.toNat_natCast]
  rfl
theorem rat_mem {xs : List Rat} {j : Nat} (h : j < xs.length) : xs.getD j 0 ∈ xs := by
  have e : xs.getD j 0 = xs[j] := by simp [List.getD, h]
  rw [e]; exact List.getElem_mem h
noncomputable def hF (hs : List Rat) : Nat → Rat := fun j => hs.getD j 0
noncomputable def pksL (hs : List Rat) (n : Nat) : List Nat := (List.range n).map (pk (hF hs))
noncomputable def wPeaks : DW := fun ds Q _ => ∃ hs : List Rat, ds = [.list (hs.map fr)] ∧ 1 ≤ hs.length ∧ hs.length ≤ 60 ∧ (∀ q ∈ hs, Ok q) ∧ Q (.own ((pksL hs hs.length).map fun p : Nat => PyData.int (p : Int)))
theorem ok_peaks_of (T : Txt K mg A) : FnOk P w K mg base (CXE P w) 2 A.a_peaks_of A.d_peaks_of ["heights"] (spW K wPeaks) := by
  have G_is_less := ok_is_less (P := P) (w := w) (base := base) T
  refine okW T.F_peaks_of sc_peaks_of (fun ds Q E h => ?_) (fun cdv Ar outer s H E hr => ?_)
  · obtain ⟨_, rfl, _⟩ := h; rfl
  refine ⟨_, (pss_cons (ps_set (i := 1) sc_peaks_of.nd rfl (Or.inl rfl) (pe_lst pa_nil))
      (pss_cons (ps_set (i := 2) sc_peaks_of.nd rfl (Or.inl rfl) pe_int)
      (pss_cons (ps_for PassesOwn.leaving rfl (pi_enumerate (K := K) rfl rfl T.n_enumerate (pa_cons (pv 0) pa_nil)) (pgtK (K := K) (n := 2) rfl rfl (pgs_cons (pg_name (i := 3) sc_peaks_of.nd rfl (Or.inl rfl)) (pgs_cons (pg_name (i := 4) sc_peaks_of.nd rfl (Or.inl rfl)) pgs_nil)))
        (pss_cons (ps_if (pt_val (pe_call G_is_less (hr.mono (by decide)) rfl T.m_is_less T.F_is_less.kp T.b_is_less .nil passE0 (pa_cons (pe_ix (ixlK (K := K) rfl) (pv 0) (pv 2) (fun _ _ => rfl)) (pa_cons (pv 4) pa_nil)))) (pss_one (ps_set (i := 2) sc_peaks_of.nd rfl (Or.inl rfl) (pv 3))) pss_nil)
      (pss_one (ps_expr (pe_bm PySem.F.plainAttrs_list PySem.F.slot_list_append PySem.F.type_list_append mt_append (pv 1) (pa_cons (pv 2) pa_nil))))))
      (pss_one (ps_ret (pv 1)))))), _, (sv_seq (sv_setO 1 (ov_lst ae_nil (by decide)))
      (sv_seq (sv_asg ev_int (gv_name 2))
      (sv_seq (sv_for (is_enum (ev_var 0)) (gv_tup (gs_cons (gv_name 3) (gs_cons (gv_name 4) gs_nil)))
        (sv_seq (sv_if (tv_b (bv_ev (ev_call0 (av_cons (bv_ev (ev_ixl (lv_var 0) (bv_var 2))) (av_cons (bv_var 4) av_nil))))) (sv_asg (ev_var 3) (gv_name 2)) sv_next)
      (sv_app 1 (ev_var 2))))
      (sv_retV 1)))), ?_⟩
  rintro ds Q X ⟨hs, rfl, n1, n60, ho, k⟩
  walk_at "s"
  walk_at "s"
  refine seq_mk (for_map (fun p : Rat × Nat => PyData.tuple [.int (p.2 : Int), fr p.1]) (hs.zipIdx 0) (fun Q h => by
      walk_at "d"
      rw [enumD_map]; exact h)
    (fun i δ => ∃ t1 t2 : Option Sl, δ = [some (.dat (.list (hs.map fr))), some (.own ((pksL hs i).map fun p : Nat => PyData.int (p : Int))), some (.dat (.int (pkB (hF hs) i : Int))), t1, t2])
    ⟨_, _, rfl⟩ ?_ ?_)
  · rintro i p δ hi ⟨t1, t2, rfl⟩
    have hil : i < hs.length := by have := (List.getElem?_eq_some_iff.mp hi).1; simpa using this
    have hp : p = (hF hs i, i) := by
      rw [List.getElem?_zipIdx, List.getElem?_eq_getElem hil] at hi
      simp at hi
      rw [← hi]
      simp [hF, List.getD, hil]
    subst hp
    have pl := pkB_le (hF hs) i
    have e : pksL hs (i + 1) = pksL hs i ++ [pk (hF hs) i] := by unfold pksL; rw [List.range_succ, List.map_append]; rfl
    have ep : pk (hF hs) i = if hF hs (pkB (hF hs) i) < hF hs i then i else pkB (hF hs) i := rfl
    have eb : pkB (hF hs) (i + 1) = pk (hF hs) i := rfl
    have ll : (pksL hs i).length = i := by unfold pksL; rw [List.length_map, List.length_range]
    rw [e, eb, List.map_append]
    walk_at "s"
    refine ⟨_, atI_rt (j := pkB (hF hs) i) rfl (by omega), ?_⟩
    refine ⟨hs.getD (pkB (hF hs) i) 0, hF hs i, rfl, ho _ (rat_mem (by omega)), ho _ (rat_mem hil), ?_⟩
    walk_at "d"
    refine ite2 (fun c => ?_) (fun c => ?_)
    · have c' : hF hs (pkB (hF hs) i) < hF hs i := c
      rw [ep, if_pos c']
      exact ⟨by omega, _, _, rfl⟩
    · have c' : ¬ hF hs (pkB (hF hs) i) < hF hs i := c
      rw [ep, if_neg c']
      walk_at "d"
      exact ⟨by omega, _, _, rfl⟩
  · rintro δ ⟨t1, t2, rfl⟩
    walk_at "d"
    rw [List.length_zipIdx]
    exact k
theorem nats_flat : ∀ ps : List Nat, flatDs (ps.map fun p : Nat => PyData.int (p : Int)) = true
  | [] => rfl
  | p :: ps => by
    have := nats_flat ps
    simp only [List.map_cons, flatDs, flatD, this, Bool.and_self]
theorem first_idx {α : Type} [DecidableEq α] {a : α} : ∀ {l : List α}, a ∈ l → ∃ j : Nat, l[j]? = some a ∧ ∀ m : Nat, m < j → l[m]? ≠ some a
  | [], h => nomatch h
  | b :: l, h => by
    by_cases e : b = a
    · exact ⟨0, by rw [e]; rfl, fun m hm => absurd hm (Nat.not_lt_zero _)⟩
    · obtain ⟨j, h1, h2⟩ := first_idx (l := l) (by
        rcases List.mem_cons.mp h with z | z
        · exact absurd z.symm e
        · exact z)
      refine ⟨j + 1, by simpa using h1, fun m hm => ?_⟩
      cases m with
      | zero => simpa using e
      | succ m => simpa using h2 m (by omega)
noncomputable def hlf : Rat := Rat.divInt 1 2
theorem hlf2 : hlf + hlf = 1 := by decide +kernel
theorem hlf_fr : PyData.tuple [.int 1, .int 2] = fr hlf := rfl
theorem hlf_frn : PyData.tuple [.int (-1), .int 2] = fr (-hlf) := rfl
theorem rep_fr (n : Nat) : (List.replicate n [PyData.tuple [PyData.int 0, PyData.int 1]]).flatten = (List.replicate n (0 : Rat)).map fr := by
  rw [List.map_replicate]
  simp
theorem ixN_nat' {n j : Nat} {k : Int} (e : k = (j : Int)) (h : j < n) : ixN n k = some j := by
  unfold ixN
  rw [if_pos (by omega), if_pos (by omega), e, Int.toNat_natCast]
theorem getD_setR {R : List Rat} {i t : Nat} {x : Rat} (h : i < R.length) : (R.set i x).getD t 0 = if t = i then x else R.getD t 0 := by
  simp only [List.getD_eq_getElem?_getD, List.getElem?_set]
  by_cases e : t = i
  · subst e; simp [h]
  · rw [if_neg (Ne.symm e), if_neg e]
structure FarOk (hs row pulls : List Rat) : Prop where
  len : row.length = hs.length ∧ pulls.length = hs.length
  h : ∃ (m : Rat) (sp : Nat), sp < hs.length ∧ dropF (hF hs) sp = m ∧ (∀ i, i < hs.length → dropF (hF hs) i ≤ m) ∧ (∀ i, i < hs.length → row.getD i 0 = hF hs (pk (hF hs) i) - hlf * m) ∧
    (∀ i, i < hs.length → pulls.getD i 0 = if m = 0 then 0 else if i = sp then -hlf else if i = pk (hF hs) sp then hlf else 0) ∧ ∀ i, i < sp → dropF (hF hs) i ≠ m
noncomputable def wFar : DW := fun ds Q _ => ∃ ms : List Mk, ds = [.list (ms.map mk3)] ∧ 1 ≤ ms.length ∧ ms.length ≤ 60 ∧ (∀ m ∈ ms, Dg 100 m.2.1) ∧ ∀ row pulls : List Rat, FarOk (ms.map (·.2.1)) row pulls → Q (.two (row.map fr) (pulls.map fr))
theorem ok_rise_far (T : Txt K mg A) : FnOk P w K mg base (CXE P w) 4 A.a_rise_far A.d_rise_far ["marks"] (spW K wFar) := by
  have G_peaks_of := ok_peaks_of (P := P) (w := w) (base := base) T
  have G_minus := ok_minus (P := P) (w := w) (base := base) T
  have G_product := ok_product (P := P) (w := w) (base := base) T
  have G_greatest_of := ok_greatest_of (P := P) (w := w) (base := base) T
  refine okW T.F_rise_far sc_rise_far (fun ds Q E h => ?_) (fun cdv Ar outer s H E hr => ?_)
  · obtain ⟨_, rfl, _⟩ := h; rfl
  refine ⟨_, (pss_cons (ps_set (i := 1) sc_rise_far.nd rfl (Or.inr rfl) (pe_lc (cap := [none]) (NC := ["mark"]) rfl ⟨rfl, rfl, by decide +kernel, by decide +kernel, trivial, (fun _ h => nomatch h), rfl⟩ (pilK (K := K) rfl (pv 0)) (fun _ _ _ _ => (pg_name (i := 0) (show List.Nodup (["mark"] : List Str) by decide) rfl (Or.inl rfl))) (fun _ _ _ _ => pts_nil) (fun _ _ _ _ => (pe_ix (ixtK (K := K) rfl) (pv 0) pe_int (fun _ _ => rfl)))))
      (pss_cons (ps_set (i := 2) sc_rise_far.nd rfl (Or.inl rfl) (pe_call G_peaks_of (hr.mono (by decide)) rfl T.m_peaks_of T.F_peaks_of.kp T.b_peaks_of .nil passE0 (pa_cons (pv 1) pa_nil)))
      (pss_cons (ps_setLC (i := 3) (cap := [none, none, some 1]) (NC := ["peak", "height", "heights"]) sc_rise_far.nd rfl rfl rfl ⟨rfl, rfl, by decide +kernel, by decide +kernel, ⟨⟨_, rfl, rfl, rfl, rfl, rfl⟩, trivial⟩, (List.forall_mem_cons.2 ⟨rfl, (fun _ h => nomatch h)⟩), rfl⟩ (pi_zip (K := K) rfl rfl T.n_zip (pa_cons (pv 2) (pa_cons (pv 1) pa_nil))) (fun _ _ _ _ => (pgtK (K := K) (n := 2) rfl rfl (pgs_cons (pg_name (i := 0) (show List.Nodup (["peak", "height", "heights"] : List Str) by decide) rfl (Or.inl rfl)) (pgs_cons (pg_name (i := 1) (show List.Nodup (["peak", "height", "heights"] : List Str) by decide) rfl (Or.inl rfl)) pgs_nil)))) (fun _ _ _ _ => pts_nil) (fun _ _ _ _ => (pe_call G_minus (hr.mono (by decide)) rfl T.m_minus T.F_minus.kp T.b_minus .nil passE0 (pa_cons (pe_ix (ixlK (K := K) rfl) (pv 2) (pv 0) (fun _ _ => rfl)) (pa_cons (pv 1) pa_nil)))))
      (pss_cons (ps_set (i := 4) sc_rise_far.nd rfl (Or.inl rfl) (pe_call G_greatest_of (hr.mono (by decide)) rfl T.m_greatest_of T.F_greatest_of.kp T.b_greatest_of .nil passE0 (pa_cons (pv 3) pa_nil)))
      (pss_cons (ps_set (i := 5) sc_rise_far.nd rfl (Or.inr rfl) (pe_call G_product (hr.mono (by decide)) rfl T.m_product T.F_product.kp T.b_product .nil passE0 (pa_cons (pe_tup (pa_cons pe_int (pa_cons pe_int pa_nil))) (pa_cons (pv 4) pa_nil))))
      (pss_cons (ps_setLC (i := 6) (cap := [none, some 5, some 1]) (NC := ["peak", "half", "heights"]) sc_rise_far.nd rfl rfl rfl ⟨rfl, rfl, by decide +kernel, by decide +kernel, ⟨⟨_, rfl, rfl, rfl, rfl, rfl⟩, ⟨⟨_, rfl, rfl, rfl, rfl, rfl⟩, trivial⟩⟩, (List.forall_mem_cons.2 ⟨rfl, (List.forall_mem_cons.2 ⟨rfl, (fun _ h => nomatch h)⟩)⟩), rfl⟩ (pilK (K := K) rfl (pv 2)) (fun _ _ _ _ => (pg_name (i := 0) (show List.Nodup (["peak", "half", "heights"] : List Str) by decide) rfl (Or.inl rfl))) (fun _ _ _ _ => pts_nil) (fun _ _ _ _ => (pe_call G_minus (hr.mono (by decide)) rfl T.m_minus T.F_minus.kp T.b_minus .nil passE0 (pa_cons (pe_ix (ixlK (K := K) rfl) (pv 2) (pv 0) (fun _ _ => rfl)) (pa_cons (pv 1) pa_nil)))))
      (pss_cons (ps_set (i := 7) sc_rise_far.nd rfl (Or.inl rfl) (pe_op op_rep (pe_lst (pa_cons (pe_glob rfl T.c_NOUGHT (show RelV (.ref _) (.ref _) from rfl)) pa_nil)) (pe_callB (lenK (K := K) rfl) rfl T.n_len PySem.boot_len (pa_cons (pv 0) pa_nil))))
      (pss_cons (ps_if (pt_cmpR (neK (K := K) rfl hr.units) (pv 4) (pe_glob rfl T.c_NOUGHT (show RelV (.ref _) (.ref _) from rfl)) (nomark _)) (pss_cons (ps_set (i := 8) sc_rise_far.nd rfl (Or.inl rfl) (pe_bm PySem.F.plainAttrs_list PySem.F.slot_list_index PySem.F.type_list_index (mt_indexK (K := K) rfl hr.units) (pv 3) (pa_cons (pv 4) pa_nil)))
      (pss_cons (ps_asg (pe_tup (pa_cons pe_int (pa_cons pe_int pa_nil))) (pg_sub (pv 7) (pe_ix (ixlK (K := K) rfl) (pv 2) (pv 8) (fun _ _ => rfl)) set_list))
      (pss_one (ps_asg (pe_tup (pa_cons (pe_un un_neg pe_int) (pa_cons pe_int pa_nil))) (pg_sub (pv 7) (pv 8) set_list))))) pss_nil)
      (pss_one (ps_ret (pe_tup (pa_cons (pv 6) (pa_cons (pv 7) pa_nil))))))))))))), _, (sv_seq (sv_setO 1 (ov_lc (ie_list (lv_var 0)) (gv_name 0) tv_yes (ev_ixk 1 (ev_var 0)) (by decide) (by decide)))
      (sv_seq (sv_setO 2 (ov_call0 (av_cons (bv_var 1) av_nil)))
      (sv_seq (sv_setO 3 (ov_lc (ie_zip (lv_var 2) (lv_var 1)) (gv_tup (gs_cons (gv_name 0) (gs_cons (gv_name 1) gs_nil))) tv_yes (ev_call0 (av_cons (bv_ev (ev_ixl (lv_var 2) (bv_var 0))) (av_cons (bv_var 1) av_nil))) (by decide) (by decide)))
      (sv_seq (sv_asg (ev_call0 (av_cons (bv_var 3) av_nil)) (gv_name 4))
      (sv_seq (sv_asg (ev_call0 (av_cons (bv_ev (ev_tup (ae_cons ev_int (ae_cons ev_int ae_nil)) (by decide))) (av_cons (bv_var 4) av_nil))) (gv_name 5))
      (sv_seq (sv_setO 6 (ov_lc (ie_list (lv_var 2)) (gv_name 0) tv_yes (ev_call0 (av_cons (bv_ev (ev_ixl (lv_var 2) (bv_var 0))) (av_cons (bv_var 1) av_nil))) (by decide) (by decide)))
      (sv_seq (sv_setO 7 (ov_rep (mv_ov (ov_lst (ae_cons (ev_c T.k_NOUGHT) ae_nil) (by decide))) (bv_ev (ev_cb rb_len (av_cons (bv_var 0) av_nil)))))
      (sv_seq (sv_if (tv_test (bv_ev (ev_op ro_neD (bv_var 4) (bv_ev (ev_c T.k_NOUGHT))))) (sv_seq (sv_asg (ev_index 3 (bv_var 4)) (gv_name 8))
      (sv_seq (sv_putAt 7 (ev_tup (ae_cons ev_int (ae_cons ev_int ae_nil)) (by decide)) (bv_ev (ev_ixl (lv_var 2) (bv_var 8))))
      (sv_putAt 7 (ev_tup (ae_cons (ev_k (v := (-1)) (ev_neg (bv_ev ev_int)) (fun ex δ Q h => Eq.mpr (congrArg (fun z => Q (.int z)) (by decide +kernel : ((-1) : Int) = -1)) h)) (ae_cons ev_int ae_nil)) (by decide)) (bv_var 8)))) sv_next)
      (sv_ret2 (o2_vv 6 7 (by decide))))))))))), ?_⟩
  rintro ds Q X ⟨ms, rfl, n1, n60, hd, k⟩
  walk_at "s"
  refine lc_map mk3 fr (fun m : Mk => [m.2.1]) ms (by omega) (fun Q h => h) (fun m h N acc hN => ?_) ?_
  · walk_at "d"
    exact hN
  rw [flat_single]
  obtain ⟨hs, hhs⟩ : ∃ hs, ms.map (fun m : Mk => m.2.1) = hs := ⟨_, rfl⟩
  have hl : hs.length = ms.length := by rw [← hhs, List.length_map]
  have hdg : ∀ q ∈ hs, Dg 100 q := fun q hq => by
    rw [← hhs] at hq
    obtain ⟨m, hm, rfl⟩ := List.mem_map.mp hq
    exact hd m hm
  rw [hhs] at k ⊢
  have hdi : ∀ i, i < hs.length → Dg 100 (hF hs i) := fun i hi => hdg _ (rat_mem hi)
  have pki : ∀ i, i < hs.length → pk (hF hs) i < hs.length := fun i hi => by have := pk_le (hF hs) i; omega
  walk_at "s"
  refine ⟨hs, rfl, by omega, by omega, fun q hq => dgOk (hdg q hq) (by decide), ?_⟩
  walk_at "d"
  refine ⟨nats_flat _, ?_⟩
  have pl : (pksL hs hs.length).length = hs.length := by unfold pksL; rw [List.length_map, List.length_range]
  have pm : ∀ p ∈ pksL hs hs.length, p < hs.length := fun p hp => by
    obtain ⟨i, hi, rfl⟩ := List.mem_map.mp hp
    exact pki i (List.mem_range.mp hi)
  walk_at "s"
  refine lc_map (fun p : Nat × Rat => PyData.tuple [.int (p.1 : Int), fr p.2]) fr (fun p : Nat × Rat => [hF hs p.1 - p.2]) ((pksL hs hs.length).zip hs) (by rw [List.length_zip]; omega) (fun Q h => by
      walk_at "d"
      rw [pairD_map]; exact h) (fun p hp N acc hN => ?_) ?_
  · have hz := List.of_mem_zip (a := p.1) (b := p.2) hp
    have h1 := pm _ hz.1
    walk_at "d"
    refine ⟨_, atI_rt (j := p.1) rfl h1, ?_⟩
    refine ⟨hF hs p.1, p.2, rfl, dgOk (hdi _ h1) (by decide), dgOk (hdg _ hz.2) (by decide), ?_⟩
    walk_at "d"
    exact hN
  rw [flat_single]
  obtain ⟨dl, hdl⟩ : ∃ dl : List Rat, (List.range hs.length).map (dropF (hF hs)) = dl := ⟨_, rfl⟩
  have edl : ((pksL hs hs.length).zip hs).map (fun p : Nat × Rat => hF hs p.1 - p.2) = dl := by
    rw [← hdl]
    apply List.ext_getElem
    · rw [List.length_map, List.length_zip, List.length_map, List.length_range]; omega
    · intro i h1 h2
      have hi : i < hs.length := by simpa using h2
      simp [pksL, dropF, hF, List.getD, hi]
  rw [edl]
  have dll : dl.length = hs.length := by rw [← hdl, List.length_map, List.length_range]
  have dat : ∀ i, i < hs.length → dl[i]? = some (dropF (hF hs) i) := fun i hi => by rw [← hdl, List.getElem?_map, List.getElem?_range hi]; rfl
  have ddg : ∀ i, i < hs.length → Dg 210 (dropF (hF hs) i) := fun i hi => ((hdi _ (pki i hi)).sub (hdi i hi)).mono (by decide)
  have dmem : ∀ q ∈ dl, ∃ i, i < hs.length ∧ q = dropF (hF hs) i := fun q hq => by
    rw [← hdl] at hq
    obtain ⟨i, hi, rfl⟩ := List.mem_map.mp hq
    exact ⟨i, List.mem_range.mp hi, rfl⟩
  walk_at "s"
  refine ⟨dl, rfl, fun q hq => ?_, fun h0 => ?_, fun m hm hle => ?_⟩
  · obtain ⟨i, hi, rfl⟩ := dmem q hq
    exact dgOk (ddg i hi) (by decide)
  · rw [h0] at dll; simp at dll; omega
  have mdg : Dg 210 m := by
    obtain ⟨i, hi, rfl⟩ := dmem m hm
    exact ddg i hi
  obtain ⟨sp, hsp, hfst⟩ := first_idx hm
  have spl : sp < hs.length := by have := (List.getElem?_eq_some_iff.mp hsp).1; omega
  have spe : dropF (hF hs) sp = m := by have := dat sp spl; rw [hsp] at this; cases this; rfl
  have one : ∀ i, i < sp → dropF (hF hs) i ≠ m := fun i hi e => hfst i hi (by rw [← e]; exact dat i (by omega))
  have top : ∀ i, i < hs.length → dropF (hF hs) i ≤ m := fun i hi => hle _ (List.mem_of_getElem? (dat i hi))
  walk_at "d"
  walk_at "s"
  rw [hlf_fr]
  have hdgh : Dg 1 hlf := ⟨by decide +kernel, by decide +kernel⟩
  have pdg := hdgh.mul mdg
  refine ⟨hlf, m, rfl, dgOk hdgh (by decide), dgOk mdg (by decide), ?_⟩
  walk_at "d"
  walk_at "s"
  refine lc_map (fun p : Nat => PyData.int (p : Int)) fr (fun p : Nat => [hF hs p - hlf * m]) (pksL hs hs.length) (by omega) (fun Q h => h) (fun p hp N acc hN => ?_) ?_
  · have h1 := pm _ hp
    walk_at "d"
    refine ⟨_, atI_rt (j := p) rfl h1, ?_⟩
    refine ⟨hF hs p, hlf * m, rfl, dgOk (hdi _ h1) (by decide), dgOk pdg (by decide), ?_⟩
    walk_at "d"
    exact hN
  rw [flat_single]
  obtain ⟨row, hrow⟩ : ∃ row : List Rat, (pksL hs hs.length).map (fun p : Nat => hF hs p - hlf * m) = row := ⟨_, rfl⟩
  have rl : row.length = hs.length := by rw [← hrow, List.length_map, pl]
  have rat : ∀ i, i < hs.length → row.getD i 0 = hF hs (pk (hF hs) i) - hlf * m := fun i hi => by
    rw [← hrow]
    simp [pksL, List.getD, hi]
  rw [hrow]
  walk_at "s"
  refine ⟨⟨by omega, by omega⟩, by omega, ?_⟩
  rw [Int.toNat_natCast, rep_fr]
  have z0 : ∀ i, (List.replicate ms.length (0 : Rat)).getD i 0 = 0 := fun i => by
    rw [List.getD_eq_getElem?_getD, List.getElem?_replicate]
    split <;> rfl
  walk_at "s"
  refine ⟨Rat, eRat, m, 0, rfl, rfl, fun b hb => ?_⟩
  cases b with
  | true =>
    have m0 := hb.mp rfl
    walk_at "d"
    exact k row _ ⟨⟨rl, by rw [List.length_replicate]; omega⟩, m, sp, spl, spe, top, rat, fun i hi => by rw [if_pos m0]; exact z0 i, one⟩
  | false =>
    have m0 : m ≠ 0 := fun z => absurd (hb.mpr z) (by decide)
    have ppl := pki sp spl
    walk_at "s"
    refine ⟨m, dl, sp, rfl, rfl, hsp, hfst, by omega, ?_⟩
    walk_at "s"
    have ap : atI ((pksL hs hs.length).map fun p : Nat => PyData.int (p : Int)) (sp : Int) = some (PyData.int (pk (hF hs) sp : Int)) := atI_nat (by
      rw [List.getElem?_map]
      unfold pksL
      rw [List.getElem?_map, List.getElem?_range spl]
      rfl)
    rw [hlf_fr]
    refine ⟨_, ap, ?_⟩
    walk_at "d"
    refine ⟨pk (hF hs) sp, ixN_nat' rfl (by rw [List.length_replicate]; omega), ?_⟩
    walk_at "d"
    rw [hlf_frn]
    refine ⟨sp, ixN_nat' rfl (by rw [List.length_set, List.length_map, List.length_replicate]; omega), ?_⟩
    walk_at "d"
    rw [← List.map_set, ← List.map_set]
    refine k row _ ⟨⟨rl, by rw [List.length_set, List.length_set, List.length_replicate]; omega⟩, m, sp, spl, spe, top, rat, fun i hi => ?_, one⟩
    rw [if_neg m0, getD_setR (by rw [List.length_set, List.length_replicate]; omega), getD_setR (by rw [List.length_replicate]; omega), z0]
end
noncomputable def dot : List Rat → List Rat → Rat
  | a :: as, b :: bs => a * b + dot as bs
  | _, _ => 0
theorem absR_le_iff {a b : Rat} : absR a ≤ b ↔ -b ≤ a ∧ a ≤ b := by
  rcases absR_cases a with ⟨h, e⟩ | ⟨h, e⟩ <;> rw [e] <;> constructor <;> intro h2
  · constructor <;> grind
  · exact h2.2
  · constructor <;> grind
  · grind
theorem mul_le_abs {p y M : Rat} (h : absR y ≤ M) : p * y ≤ absR p * M := by
  have h2 := absR_le_iff.mp h
  rcases absR_cases p with ⟨hp, e⟩ | ⟨hp, e⟩ <;> rw [e]
  · have := Rat.mul_nonneg hp (show 0 ≤ M - y by grind)
    grind
  · have := Rat.mul_nonneg (show 0 ≤ -p by grind) (show 0 ≤ M + y by grind)
    grind
theorem dot_le_far : ∀ {ps ys : List Rat} {M : Rat}, ps.length = ys.length → (∀ y ∈ ys, absR y ≤ M) → dot ps ys ≤ tot (ps.map absR) * M
  | [], [], M, _, _ => by simp [dot, tot, Rat.zero_mul]
  | p :: ps, y :: ys, M, hl, h => by
    have ih := dot_le_far (ps := ps) (ys := ys) (M := M) (by simpa using hl) fun x hx => h x (List.mem_cons_of_mem _ hx)
    have h1 := mul_le_abs (p := p) (h y List.mem_cons_self)
    simp only [dot, List.map_cons, tot]
    grind
theorem dot_eq_far : ∀ {ps xs : List Rat} {M : Rat}, ps.length = xs.length → (∀ z ∈ ps.zip xs, z.1 = 0 ∨ (absR z.2 = M ∧ 0 < z.2 * z.1)) → dot ps xs = tot (ps.map absR) * M
  | [], [], M, _, _ => by simp [dot, tot, Rat.zero_mul]
  | p :: ps, x :: xs, M, hl, h => by
    have ih := dot_eq_far (ps := ps) (xs := xs) (M := M) (by simpa using hl) fun z hz => h z (by simp [hz])
    have h1 := h (p, x) (by simp)
    simp only [dot, List.map_cons, tot, ih]
    have e : p * x = absR p * M := by
      rcases h1 with h1 | ⟨h1, h2⟩
      · dsimp only at h1
        rw [h1, absR_pos Rat.le_refl, Rat.zero_mul, Rat.zero_mul]
      · dsimp only at h1 h2
        rw [← h1]
        rcases absR_cases p with ⟨a1, a2⟩ | ⟨a1, a2⟩ <;> rcases absR_cases x with ⟨b1, b2⟩ | ⟨b1, b2⟩ <;> rw [a2, b2]
        · exfalso
          have := Rat.mul_nonneg a1 (show 0 ≤ -x by grind)
          grind
        · exfalso
          have := Rat.mul_nonneg (show 0 ≤ -p by grind) b1
          grind
        · grind
    rw [e]
    grind
theorem dot_sum : ∀ {ws ps xs ys : List Rat}, ps.length = ws.length → xs.length = ws.length → ys.length = ws.length → (∀ z ∈ ws.zip (ps.zip xs), absR z.2.1 ≤ z.1 ∧ (0 < z.2.2 → z.2.1 = z.1) ∧ (z.2.2 < 0 → z.2.1 = -z.1)) →
    tot (List.zipWith (fun w x => w * absR x) ws xs) = dot ps xs ∧ dot ps ys ≤ tot (List.zipWith (fun w y => w * absR y) ws ys)
  | [], [], [], [], _, _, _, _ => ⟨rfl, Rat.le_refl⟩
  | w :: ws, p :: ps, x :: xs, y :: ys, h1, h2, h3, h => by
    obtain ⟨i1, i2⟩ := dot_sum (ws := ws) (ps := ps) (xs := xs) (ys := ys) (by simpa using h1) (by simpa using h2) (by simpa using h3) fun z hz => h z (by simp [hz])
    obtain ⟨a, b, c⟩ := h (w, p, x) (by simp)
    dsimp only at a b c
    simp only [List.zipWith_cons_cons, tot, dot]
    constructor
    · rw [i1]
      have e : w * absR x = p * x := by
        by_cases q : 0 < x
        · rw [b q, absR_pos (by grind)]
        · by_cases q2 : x < 0
          · rw [c q2, absR_neg (by grind)]; grind
          · have : x = 0 := Rat.le_antisymm (Rat.not_lt.mp q) (Rat.not_lt.mp q2)
            rw [this, absR_pos Rat.le_refl, Rat.mul_zero, Rat.mul_zero]
      rw [e]
    · have e : p * y ≤ w * absR y := by
        have h4 := absR_le_iff.mp a
        rcases absR_cases y with ⟨q, e⟩ | ⟨q, e⟩ <;> rw [e]
        · have := Rat.mul_nonneg (show 0 ≤ w - p by grind) q
          grind
        · have := Rat.mul_nonneg (show 0 ≤ w + p by grind) (show 0 ≤ -y by grind)
          grind
      grind
theorem dot_sq : ∀ {ws xs ys : List Rat}, xs.length = ws.length → ys.length = ws.length → (∀ w ∈ ws, 0 < w) →
    0 ≤ tot (List.zipWith (fun w (z : Rat × Rat) => w * (z.2 - z.1) * (z.2 - z.1)) ws (xs.zip ys)) ∧
    (tot (List.zipWith (fun w (z : Rat × Rat) => w * (z.2 - z.1) * (z.2 - z.1)) ws (xs.zip ys)) = 0 → ys = xs) ∧
    tot (List.zipWith (fun w y => w * y * y) ws ys) = tot (List.zipWith (fun w x => w * x * x) ws xs) + 2 * (dot (List.zipWith (fun w x => w * x) ws xs) ys - dot (List.zipWith (fun w x => w * x) ws xs) xs) + tot (List.zipWith (fun w (z : Rat × Rat) => w * (z.2 - z.1) * (z.2 - z.1)) ws (xs.zip ys))
  | [], [], [], _, _, _ => ⟨Rat.le_refl, fun _ => rfl, by simp [tot, dot] <;> grind⟩
  | w :: ws, x :: xs, y :: ys, h1, h2, hw => by
    obtain ⟨i1, i2, i3⟩ := dot_sq (ws := ws) (xs := xs) (ys := ys) (by simpa using h1) (by simpa using h2) fun v hv => hw v (List.mem_cons_of_mem _ hv)
    have w0 := hw w List.mem_cons_self
    simp only [List.zip_cons_cons, List.zipWith_cons_cons, tot, dot]
    generalize tot (List.zipWith (fun w (z : Rat × Rat) => w * (z.2 - z.1) * (z.2 - z.1)) ws (xs.zip ys)) = S at i1 i2 i3 ⊢
    have sq : 0 ≤ w * (y - x) * (y - x) := by
      have h := Rat.mul_nonneg (show (0 : Rat) ≤ w by grind) (show 0 ≤ (y - x) * (y - x) by
        rcases Rat.le_total (a := 0) (b := y - x) with q | q
        · exact Rat.mul_nonneg q q
        · have := Rat.mul_nonneg (show 0 ≤ -(y - x) by grind) (show 0 ≤ -(y - x) by grind)
          grind)
      grind
    refine ⟨by grind, fun e => ?_, by grind⟩
    have e1 : w * (y - x) * (y - x) = 0 := by grind
    have e2 : S = 0 := by grind
    rw [i2 e2]
    have e3 : y - x = 0 := by
      rcases Rat.mul_eq_zero.mp e1 with z | z
      · rcases Rat.mul_eq_zero.mp z with z | z
        · grind
        · exact z
      · exact z
    have : y = x := by grind
    rw [this]
theorem dot_sub : ∀ (ps : List Rat) (ms : List Mk) (row : List Rat), ps.length = ms.length → row.length = ms.length → dot ps (missR ms row) = dot ps (ms.map (·.2.1)) - dot ps row
  | [], [], [], _, _ => by simp [dot, missR]; grind
  | p :: ps, m :: ms, r :: row, h1, h2 => by
    have ih := dot_sub ps ms row (by simpa using h1) (by simpa using h2)
    unfold missR at ih ⊢
    simp only [List.zipWith_cons_cons, List.map_cons, dot, ih]
    grind
theorem zip_fst_map {ms : List Mk} {xs ps : List Rat} {p : Rat → Rat × Rat → Prop} (h : ∀ z ∈ ms.zip (xs.zip ps), p (z.1.2.2 : Rat) (z.2.2, z.2.1)) : ∀ z ∈ (ms.map fun m => (m.2.2 : Rat)).zip (ps.zip xs), p z.1 z.2 := by
  intro z hz
  obtain ⟨i, hi, rfl⟩ := List.getElem_of_mem hz
  simp only [List.length_zip, List.length_map] at hi
  have hi2 : i < (ms.zip (xs.zip ps)).length := by simp only [List.length_zip]; omega
  have := h _ (List.getElem_mem hi2)
  simpa using this
theorem abs_mul_pos {w x : Rat} (hw : 0 < w) : absR (w * x) = w * absR x := by
  rcases absR_cases x with ⟨h1, h2⟩ | ⟨h1, h2⟩
  · rw [h2, absR_pos (Rat.mul_nonneg (by grind) h1)]
  · rw [h2, absR_neg]
    · grind
    · have := Rat.mul_nonneg (a := w) (b := -x) (by grind) (by grind)
      grind
theorem zw_map {ms : List Mk} {xs : List Rat} {f : Rat → Rat → Rat} : List.zipWith (fun (m : Mk) x => f (m.2.2 : Rat) x) ms xs = List.zipWith f (ms.map fun m => (m.2.2 : Rat)) xs := by rw [List.zipWith_map_left]
theorem zw_congr {ms : List Mk} {xs : List Rat} {f g : Mk → Rat → Rat} (h : ∀ m x, m ∈ ms → f m x = g m x) : List.zipWith f ms xs = List.zipWith g ms xs := by
  induction ms generalizing xs with
  | nil => simp
  | cons m ms ih =>
    cases xs with
    | nil => simp
    | cons x xs => rw [List.zipWith_cons_cons, List.zipWith_cons_cons, h m x List.mem_cons_self, ih fun m' x' hm => h m' x' (List.mem_cons_of_mem _ hm)]
theorem miss_inj : ∀ {ms : List Mk} {ot row : List Rat}, ot.length = ms.length → row.length = ms.length → missR ms ot = missR ms row → ot = row
  | [], [], [], _, _, _ => rfl
  | m :: ms, o :: ot, r :: row, h1, h2, h => by
    unfold missR at h
    rw [List.zipWith_cons_cons, List.zipWith_cons_cons] at h
    injection h with e1 e2
    have := miss_inj (ms := ms) (by simpa using h1) (by simpa using h2) e2
    rw [this]
    have : o = r := by grind
    rw [this]
theorem maxR_zero' {xs : List Rat} : maxR (xs.map absR) = 0 ↔ ∀ x ∈ xs, x = 0 := by
  constructor
  · intro h x hx
    have h1 := maxR_le (absR x) (List.mem_map.mpr ⟨x, hx, rfl⟩)
    rw [h] at h1
    have h2 := absR_nn x
    have h3 : absR x = 0 := Rat.le_antisymm h1 h2
    rcases absR_cases x with ⟨_, b⟩ | ⟨_, b⟩
    · rw [b] at h3; exact h3
    · rw [b] at h3; grind
  · intro h
    rcases @maxR_mem (xs.map absR) with z | z
    · exact z
    · obtain ⟨x, hx, e⟩ := List.mem_map.mp z
      rw [← e, h x hx, absR_pos Rat.le_refl]
theorem meas_sum_eq {ms : List Mk} {row : List Rat} (hw : ∀ m ∈ ms, 0 < m.2.2) : (wmissR ms row).map absR = List.zipWith (fun w x => w * absR x) (ms.map fun m => (m.2.2 : Rat)) (missR ms row) := by
  unfold wmissR
  rw [List.map_zipWith, ← zw_map]
  refine zw_congr fun m x hm => ?_
  exact abs_mul_pos (Rat.intCast_pos.mpr (hw m hm))
theorem sq_eq : ∀ (ws xs : List Rat), List.zipWith (fun a b => a * b) (List.zipWith (fun w x => w * x) ws xs) xs = List.zipWith (fun w x => w * x * x) ws xs
  | [], _ => by simp
  | _ :: _, [] => by simp
  | w :: ws, x :: xs => by simp [sq_eq ws xs]
theorem fair_tells {kd : Str} {ms : List Mk} {row ot ps : List Rat} (hkd : kd ∈ kdsL) (hw : ∀ m ∈ ms, 0 < m.2.2) (hr : row.length = ms.length) (ho : ot.length = ms.length) (hp : ps.length = ms.length) (hf : Fair kd ms row ps) (hd : dot ps ot ≤ dot ps row) :
    meas kd ms row ≤ meas kd ms ot ∧ (kd = "square" → meas kd ms ot = meas kd ms row → ot = row) := by
  have lx : (missR ms row).length = ms.length := by unfold missR; rw [List.length_zipWith]; omega
  have ly : (missR ms ot).length = ms.length := by unfold missR; rw [List.length_zipWith]; omega
  have h1 := dot_sub ps ms row hp hr
  have h2 := dot_sub ps ms ot hp ho
  have hxy : dot ps (missR ms row) ≤ dot ps (missR ms ot) := by grind
  simp only [kdsL, List.mem_cons, List.not_mem_nil, or_false] at hkd
  unfold Fair at hf
  unfold meas
  rcases hkd with rfl | rfl | rfl
  · rw [if_pos rfl] at hf ⊢
    rw [if_pos rfl]
    refine ⟨?_, fun h => absurd h (by decide)⟩
    rcases hf with ⟨_, hx0⟩ | ⟨_, hfar, htot⟩
    · rw [maxR_zero'.mpr hx0]; exact maxR_nn _
    · have e1 := dot_eq_far (ps := ps) (xs := missR ms row) (M := maxR ((missR ms row).map absR)) (by omega) fun y hy => by
        by_cases y0 : y.1 = 0
        · exact .inl y0
        · have hy2 : (y.2, y.1) ∈ (missR ms row).zip ps := by
            obtain ⟨i, hi, rfl⟩ := List.getElem_of_mem hy
            rw [List.length_zip] at hi
            rw [List.getElem_zip]
            have hi2 : i < ((missR ms row).zip ps).length := by rw [List.length_zip]; omega
            have := List.getElem_mem hi2
            rw [List.getElem_zip] at this
            exact this
          exact .inr (hfar _ hy2 y0)
      have e2 := dot_le_far (ps := ps) (ys := missR ms ot) (M := maxR ((missR ms ot).map absR)) (by omega) fun y hy => maxR_le _ (List.mem_map.mpr ⟨y, hy, rfl⟩)
      rw [htot, Rat.one_mul] at e1 e2
      rw [e1] at hxy
      exact Rat.le_trans hxy e2
  · rw [if_neg (by decide), if_pos rfl] at hf ⊢
    rw [if_neg (by decide), if_pos rfl]
    refine ⟨?_, fun h => absurd h (by decide)⟩
    rw [meas_sum_eq hw, meas_sum_eq hw]
    obtain ⟨e1, e2⟩ := dot_sum (ws := ms.map fun m => (m.2.2 : Rat)) (ps := ps) (xs := missR ms row) (ys := missR ms ot) (by simp [hp]) (by simp [lx]) (by simp [ly]) (zip_fst_map (p := fun w z => absR z.1 ≤ w ∧ (0 < z.2 → z.1 = w) ∧ (z.2 < 0 → z.1 = -w)) fun y hy => hf y hy)
    rw [e1]
    exact Rat.le_trans hxy e2
  · rw [if_neg (by decide), if_neg (by decide)] at hf ⊢
    rw [if_neg (by decide), if_neg (by decide)]
    obtain ⟨i1, i2, i3⟩ := dot_sq (ws := ms.map fun m => (m.2.2 : Rat)) (xs := missR ms row) (ys := missR ms ot) (by simp [lx]) (by simp [ly]) fun v hv => by
      obtain ⟨m, hm, rfl⟩ := List.mem_map.mp hv
      exact Rat.intCast_pos.mpr (hw m hm)
    have ew : ∀ r : List Rat, wmissR ms r = List.zipWith (fun w x => w * x) (ms.map fun m => (m.2.2 : Rat)) (missR ms r) := fun r => by unfold wmissR; exact zw_map
    have es : ∀ r : List Rat, sqR ms r = List.zipWith (fun w x => w * x * x) (ms.map fun m => (m.2.2 : Rat)) (missR ms r) := fun r => by unfold sqR; rw [ew, sq_eq]
    rw [es, es]
    rw [hf, ew] at hxy
    generalize tot (List.zipWith (fun w (z : Rat × Rat) => w * (z.2 - z.1) * (z.2 - z.1)) (ms.map fun m => (m.2.2 : Rat)) ((missR ms row).zip (missR ms ot))) = S at i1 i2 i3
    refine ⟨by grind, fun _ he => ?_⟩
    have s0 : S = 0 := by grind
    have e := i2 s0
    exact miss_inj ho hr e
theorem dot_take : ∀ (ps row : List Rat) (i : Nat), ps.length = row.length → (h : i < row.length) → dot (ps.take (i + 1)) (row.take (i + 1)) = dot (ps.take i) (row.take i) + ps.getD i default * row.getD i default
  | [], row, i, hl, h => by rw [← hl] at h; exact absurd h (Nat.not_lt_zero _)
  | _ :: _, [], i, hl, h => absurd h (Nat.not_lt_zero _)
  | p :: ps, r :: row, 0, _, _ => by simp [dot]; grind
  | p :: ps, r :: row, i + 1, hl, h => by
    have ih := dot_take ps row i (by simpa using hl) (by simpa using h)
    simp only [List.take_succ_cons, dot, List.getD_cons_succ] at ih ⊢
    rw [ih]
    grind
noncomputable def HoldF (row pulls : List Rat) : Prop := (∀ i, i + 1 < row.length → row.getD i 0 ≤ row.getD (i + 1) 0) ∧ ∀ i, i < row.length → 0 ≤ tot (pulls.take (i + 1)) ∧ (0 < tot (pulls.take (i + 1)) → i + 1 < row.length ∧ row.getD (i + 1) 0 = row.getD i 0)
theorem hlf_pos : (0 : Rat) < hlf := by decide +kernel
theorem absR_leI {a b : Rat} (h1 : -b ≤ a) (h2 : a ≤ b) : absR a ≤ b := by
  rcases absR_cases a with ⟨h, e⟩ | ⟨h, e⟩ <;> rw [e] <;> grind
theorem hlf_dbl (m : Rat) : hlf * m + hlf * m = m := by
  have := hlf2
  grind
theorem tot_ind {qs : List Rat} {f : Nat → Rat} (h0 : f 0 = 0) (h : ∀ i, i < qs.length → f (i + 1) = f i + qs.getD i 0) : ∀ i, i ≤ qs.length → tot (qs.take i) = f i
  | 0, _ => by rw [h0]; rfl
  | i + 1, hi => by
    have hpi : qs[i]? = some (qs.getD i 0) := by rw [List.getElem?_eq_getElem (show i < qs.length by omega)]; simp [List.getD, show i < qs.length by omega]
    rw [take_snoc hpi, tot_snoc, tot_ind h0 h i (by omega), h i (by omega)]
theorem mem_getD {qs : List Rat} {q : Rat} (h : q ∈ qs) : ∃ i, i < qs.length ∧ qs.getD i 0 = q := by
  obtain ⟨i, hi⟩ := List.getElem?_of_mem h
  have hl := (List.getElem?_eq_some_iff.mp hi).1
  exact ⟨i, hl, by rw [List.getD_eq_getElem?_getD, hi]; rfl⟩
structure FarFacts (hs row pulls : List Rat) (m : Rat) : Prop where
  hold : HoldF row pulls
  nn : 0 ≤ m
  le : ∀ i, i < hs.length → absR (hF hs i - row.getD i 0) ≤ hlf * m
  at1 : hlf * m = 0 ∨ ∃ i, i < hs.length ∧ absR (hF hs i - row.getD i 0) = hlf * m
  fair : ∀ i, i < hs.length → pulls.getD i 0 = 0 ∨ (absR (hF hs i - row.getD i 0) = hlf * m ∧ 0 < pulls.getD i 0 * (hF hs i - row.getD i 0))
  all : tot (pulls.map absR) = 1 ∨ (tot (pulls.map absR) = 0 ∧ hlf * m = 0)
  drop : ∀ j i, j < i → i < hs.length → hF hs j - hF hs i ≤ m
  at2 : m = 0 ∨ ∃ j i, j < i ∧ i < hs.length ∧ hF hs j - hF hs i = m
  pc : ∀ q ∈ pulls, Cm 2 1 q
theorem far_facts {hs row pulls : List Rat} (F : FarOk hs row pulls) : ∃ m, FarFacts hs row pulls m := by
  obtain ⟨⟨rl, pl⟩, m, sp, hsp, em, hle, hrow, hpull, _⟩ := F
  have m0 : 0 ≤ m := by rw [← em]; exact drop_nn _ _
  obtain ⟨h, eh⟩ : ∃ h, h = hF hs := ⟨_, rfl⟩
  rw [← eh] at em hle hrow hpull
  obtain ⟨p, ep⟩ : ∃ p, p = pk h sp := ⟨_, rfl⟩
  have psp : p ≤ sp := by rw [ep]; exact pk_le h sp
  have hself : h (pk h p) = h p := by rw [ep]; exact pk_self h sp
  rw [← ep] at hpull
  have em' : h p - h sp = m := by rw [← em, ep]; rfl
  have hx : ∀ i, i < hs.length → h i - row.getD i 0 = hlf * m - dropF h i := fun i hi => by
    rw [hrow i hi]; unfold dropF; grind
  have hd := hlf_dbl m
  have M0 : 0 ≤ hlf * m := Rat.mul_nonneg (by have := hlf_pos; grind) m0
  have hplt : m ≠ 0 → p < sp := fun z => by
    rcases Nat.lt_or_ge p sp with q | q
    · exact q
    · have : p = sp := by omega
      rw [this] at em'
      exact absurd em' (by grind)
  have xsp : h sp - row.getD sp 0 = -(hlf * m) := by rw [hx sp hsp, em]; grind
  have xp : h p - row.getD p 0 = hlf * m := by
    rw [hx p (by omega)]
    have : dropF h p = 0 := by unfold dropF; rw [hself]; grind
    rw [this]; grind
  have hS : ∀ i, i ≤ pulls.length → tot (pulls.take i) = if m = 0 then 0 else if p < i ∧ i ≤ sp then hlf else 0 := by
    refine tot_ind ?_ fun i hi => ?_
    · by_cases z : m = 0
      · rw [if_pos z]
      · rw [if_neg z, if_neg (by omega)]
    · rw [hpull i (by omega)]
      by_cases z : m = 0
      · rw [if_pos z, if_pos z, if_pos z]; grind
      · have := hplt z
        rw [if_neg z, if_neg z, if_neg z]
        by_cases a : i = sp
        · rw [if_pos a, if_neg (by omega), if_pos (by omega)]; grind
        · rw [if_neg a]
          by_cases b : i = p
          · rw [if_pos b, if_pos (by omega), if_neg (by omega)]; grind
          · rw [if_neg b]
            by_cases c : p < i ∧ i ≤ sp
            · rw [if_pos c, if_pos (by omega)]; grind
            · rw [if_neg c, if_neg (by omega)]; grind
  have hpc : ∀ i, i < hs.length → pulls.getD i 0 = 0 ∨ (m ≠ 0 ∧ i = sp ∧ pulls.getD i 0 = -hlf) ∨ (m ≠ 0 ∧ i = p ∧ pulls.getD i 0 = hlf) := fun i hi => by
    have e := hpull i hi
    by_cases z : m = 0
    · rw [if_pos z] at e; exact .inl e
    · rw [if_neg z] at e
      by_cases a : i = sp
      · rw [if_pos a] at e; exact .inr (.inl ⟨z, a, e⟩)
      · rw [if_neg a] at e
        by_cases b : i = p
        · rw [if_pos b] at e; exact .inr (.inr ⟨z, b, e⟩)
        · rw [if_neg b] at e; exact .inl e
  have hh := hlf_pos
  have al : (pulls.map absR).length = hs.length := by rw [List.length_map, pl]
  have agd : ∀ i, i < hs.length → (pulls.map absR).getD i 0 = absR (pulls.getD i 0) := fun i hi => by
    simp [List.getD, show i < pulls.length by omega]
  have hT : ∀ i, i ≤ (pulls.map absR).length → tot ((pulls.map absR).take i) = if m = 0 then 0 else (if p < i then hlf else 0) + (if sp < i then hlf else 0) := by
    refine tot_ind ?_ fun i hi => ?_
    · by_cases z : m = 0
      · rw [if_pos z]
      · rw [if_neg z, if_neg (by omega), if_neg (by omega)]; decide +kernel
    · rw [agd i (by omega), hpull i (by omega)]
      by_cases z : m = 0
      · rw [if_pos z, if_pos z, if_pos z, absR_pos Rat.le_refl]; grind
      · have := hplt z
        rw [if_neg z, if_neg z, if_neg z]
        by_cases a : i = sp
        · rw [if_pos a, if_pos (by omega), if_pos (by omega), if_pos (by omega), if_neg (by omega), show absR (-hlf) = hlf by decide +kernel]; grind
        · rw [if_neg a]
          by_cases b : i = p
          · rw [if_pos b, if_pos (by omega), if_neg (by omega), if_neg (by omega), if_neg (by omega), show absR hlf = hlf by decide +kernel]; grind
          · rw [if_neg b, absR_pos Rat.le_refl]
            by_cases c : p < i
            · rw [if_pos c, if_pos (by omega)]
              by_cases d : sp < i
              · rw [if_pos d, if_pos (by omega)]; grind
              · rw [if_neg d, if_neg (by omega)]; grind
            · rw [if_neg c, if_neg (by omega), if_neg (by omega), if_neg (by omega)]; grind
  refine ⟨m, ⟨⟨fun i hi => ?_, fun i hi => ?_⟩, m0, fun i hi => ?_, ?_, fun i hi => ?_, ?_, fun j i hj hi => ?_, ?_, fun q hq => ?_⟩⟩
  · rw [hrow i (by omega), hrow (i + 1) (by omega)]
    have := pk_mono h (show i ≤ i + 1 by omega)
    grind
  · rw [hS (i + 1) (by omega)]
    by_cases z : m = 0
    · rw [if_pos z]; exact ⟨Rat.le_refl, fun c => absurd c (by decide)⟩
    · rw [if_neg z]
      by_cases c : p < i + 1 ∧ i + 1 ≤ sp
      · rw [if_pos c]
        refine ⟨by grind, fun _ => ⟨by omega, ?_⟩⟩
        have e : ∀ t, p ≤ t → t ≤ sp → h (pk h t) = h p := fun t h1 h2 => Rat.le_antisymm (by rw [ep]; exact pk_mono h h2) (pk_top h t p h1)
        rw [hrow i (by omega), hrow (i + 1) (by omega), e i (by omega) (by omega), e (i + 1) (by omega) (by omega)]
      · rw [if_neg c]; exact ⟨Rat.le_refl, fun c => absurd c (by decide)⟩
  · rw [← eh, hx i hi]
    have a := hle i hi
    have b := drop_nn h i
    exact absR_leI (by grind) (by grind)
  · exact .inr ⟨p, by omega, by rw [← eh, xp]; exact absR_pos M0⟩
  · rw [← eh]
    rcases hpc i hi with z | ⟨z, rfl, e⟩ | ⟨z, rfl, e⟩
    · exact .inl z
    · refine .inr ⟨?_, ?_⟩
      · rw [xsp]
        rw [absR_neg (by grind)]; grind
      · rw [xsp, e]
        have : 0 < hlf * (hlf * m) := Rat.mul_pos hh (Rat.mul_pos hh (by grind))
        grind
    · refine .inr ⟨by rw [xp]; exact absR_pos M0, ?_⟩
      rw [xp, e]
      exact Rat.mul_pos hh (Rat.mul_pos hh (by grind))
  · have e := hT hs.length (by omega)
    rw [List.take_of_length_le (by omega)] at e
    by_cases z : m = 0
    · rw [if_pos z] at e
      exact .inr ⟨e, by rw [z]; decide +kernel⟩
    · rw [if_neg z, if_pos (by omega), if_pos (by omega), hlf2] at e
      exact .inl e
  · have a := hle i hi
    have b := pk_top h i j (by omega)
    unfold dropF at a
    rw [← eh]
    grind
  · by_cases z : m = 0
    · exact .inl z
    · exact .inr ⟨p, sp, hplt z, hsp, by rw [← eh]; exact em'⟩
  · obtain ⟨i, hi, rfl⟩ := mem_getD hq
    rcases hpc i (by omega) with z | ⟨_, _, e⟩ | ⟨_, _, e⟩
    · rw [z]; exact Cm.zero
    · rw [e]; exact ⟨by decide +kernel, by decide +kernel, by decide +kernel⟩
    · rw [e]; exact ⟨by decide +kernel, by decide +kernel, by decide +kernel⟩
theorem tot_zeros : ∀ ps : List Rat, tot (ps.map fun _ => (0 : Rat)) = 0
  | [] => rfl
  | p :: ps => by rw [List.map_cons, tot, tot_zeros ps, Rat.zero_add]
theorem tot_mem_le {q : Rat} : ∀ {a : List Rat}, (∀ x ∈ a, 0 ≤ x) → q ∈ a → q ≤ tot a
  | x :: a, h, hq => by
    have h1 := h x List.mem_cons_self
    have h2 := tot_nn (a := a) fun y hy => h y (List.mem_cons_of_mem _ hy)
    rw [tot]
    rcases List.mem_cons.mp hq with rfl | hq
    · grind
    · have := tot_mem_le (a := a) (fun y hy => h y (List.mem_cons_of_mem _ hy)) hq; grind
theorem hold_end {row ps : List Rat} (H : HoldR row ps) (hl : ps.length = row.length) (hne : row ≠ []) : tot ps = 0 := by
  have hp := List.length_pos_iff.mpr hne
  have h1 := H.nn (row.length - 1) (by omega)
  have h2 := H.zr (row.length - 1) (by omega)
  rw [show row.length - 1 + 1 = row.length by omega, ← hl, List.take_length] at h1 h2
  refine Rat.le_antisymm (Rat.not_lt.mp fun c => ?_) h1
  have := (h2 c).1
  omega
theorem tot_take1 (ps : List Rat) {i : Nat} (h : i < ps.length) : tot (ps.take (i + 1)) = tot (ps.take i) + ps.getD i 0 := by
  have hpi : ps[i]? = some (ps.getD i 0) := by rw [List.getElem?_eq_getElem h]; simp [List.getD, h]
  rw [take_snoc hpi, tot_snoc]
theorem abel_le {row ps ot : List Rat} (H : HoldR row ps) (hp : ps.length = row.length) (ho : ot.length = row.length) (up : ∀ i, i + 1 < ot.length → ot.getD i 0 ≤ ot.getD (i + 1) 0) :
    ∀ k, k < row.length → dot (ps.take (k + 1)) (ot.take (k + 1)) ≤ tot (ps.take (k + 1)) * ot.getD k 0
  | 0, h => by
    rw [dot_take ps ot 0 (by omega) (by omega), tot_take1 ps (by omega)]
    simp only [List.take_zero, dot, tot]
    have : (default : Rat) = 0 := rfl
    rw [this]; grind
  | k + 1, h => by
    have ih := abel_le H hp ho up k (by omega)
    rw [dot_take ps ot (k + 1) (by omega) (by omega), tot_take1 ps (by omega)]
    have n1 := H.nn k (by omega)
    have u1 := up k (by omega)
    have m1 := Rat.mul_nonneg n1 (show 0 ≤ ot.getD (k + 1) 0 - ot.getD k 0 by grind)
    have : (default : Rat) = 0 := rfl
    rw [this]; grind
theorem abel_eq {row ps : List Rat} (H : HoldR row ps) (hp : ps.length = row.length) : ∀ k, k < row.length → dot (ps.take (k + 1)) (row.take (k + 1)) = tot (ps.take (k + 1)) * row.getD k 0
  | 0, h => by
    rw [dot_take ps row 0 (by omega) (by omega), tot_take1 ps (by omega)]
    simp only [List.take_zero, dot, tot]
    have : (default : Rat) = 0 := rfl
    rw [this]; grind
  | k + 1, h => by
    have ih := abel_eq H hp k (by omega)
    rw [dot_take ps row (k + 1) (by omega) (by omega), tot_take1 ps (by omega)]
    have n1 := H.nn k (by omega)
    have z1 := H.zr k (by omega)
    have : (default : Rat) = 0 := rfl
    rw [this]
    by_cases c : 0 < tot (ps.take (k + 1))
    · have := (z1 c).2
      rw [ih, this]; grind
    · have e : tot (ps.take (k + 1)) = 0 := by grind
      rw [ih, e]; grind
theorem dot_hold {row ps ot : List Rat} (H : HoldR row ps) (hp : ps.length = row.length) (ho : ot.length = row.length) (up : ∀ i, i + 1 < ot.length → ot.getD i 0 ≤ ot.getD (i + 1) 0) : dot ps ot ≤ dot ps row := by
  by_cases hne : row = []
  · subst hne
    have h1 : ps = [] := List.length_eq_zero_iff.mp (by simpa using hp)
    have h2 : ot = [] := List.length_eq_zero_iff.mp (by simpa using ho)
    rw [h1, h2]; exact Rat.le_refl
  have hpos := List.length_pos_iff.mpr hne
  have e0 := hold_end H hp hne
  have h1 := abel_le H hp ho up (row.length - 1) (by omega)
  have h2 := abel_eq H hp (row.length - 1) (by omega)
  rw [show row.length - 1 + 1 = row.length by omega] at h1 h2
  rw [show ps.take row.length = ps by rw [← hp, List.take_length]] at h1 h2
  rw [show ot.take row.length = ot by rw [← ho, List.take_length], e0, Rat.zero_mul] at h1
  rw [List.take_length, e0, Rat.zero_mul] at h2
  grind
structure RF (kd : Str) (ms : List Mk) (row ps : List Rat) : Prop where
  len : row.length = ms.length
  plen : ps.length = ms.length
  fair : Fair kd ms row ps
  hold : HoldR row ps
theorem RF.least {kd : Str} {ms : List Mk} {row ps ot : List Rat} (F : RF kd ms row ps) (hk : kd ∈ kdsL) (hw : ∀ m ∈ ms, 0 < m.2.2) (ho : ot.length = ms.length) (up : ∀ i, i + 1 < ot.length → ot.getD i 0 ≤ ot.getD (i + 1) 0) :
    meas kd ms row ≤ meas kd ms ot ∧ (kd = "square" → meas kd ms ot = meas kd ms row → ot = row) :=
  fair_tells hk hw F.len ho F.plen F.fair (dot_hold F.hold (by rw [F.plen, F.len]) (by rw [ho, F.len]) up)
theorem rf_sq {ms : List Mk} {row ps : List Rat} (F : SqFacts ms row ps) : RF "square" ms row ps := by
  refine ⟨F.len, ?_, ?_, F.hold⟩
  · rw [F.pl]; unfold wmissR missR; rw [List.length_zipWith, List.length_zipWith, F.len]; omega
  · unfold Fair
    rw [if_neg (by decide), if_neg (by decide)]
    exact F.pl
theorem rf_sum {ms : List Mk} {row : List Rat} {ps : List Int} (F : SumFacts ms row ps) : RF "sum" ms row (ps.map fun n : Int => (n : Rat)) := by
  refine ⟨F.len, by rw [List.length_map, F.plen], ?_, F.hold⟩
  unfold Fair
  rw [if_neg (by decide), if_pos rfl]
  intro z hz
  obtain ⟨i, hi, rfl⟩ := List.getElem_of_mem hz
  have lm : (missR ms row).length = ms.length := by unfold missR; rw [List.length_zipWith, F.len]; omega
  rw [List.length_zip, List.length_zip, List.length_map] at hi
  have hz2 : i < (ms.zip (row.zip ps)).length := by rw [List.length_zip, List.length_zip, F.len, F.plen]; omega
  have h := F.fair _ (List.getElem_mem hz2)
  rw [List.getElem_zip, List.getElem_zip] at h ⊢
  rw [List.getElem_map]
  have em : (missR ms row)[i]'(by omega) = ms[i].2.1 - row[i]'(by rw [F.len]; omega) := by unfold missR; rw [List.getElem_zipWith]
  dsimp only at h ⊢
  rw [em]
  obtain ⟨h1, h2, h3, h4⟩ := h
  refine ⟨?_, fun c => ?_, fun c => ?_⟩
  · have a : ((-ms[i].2.2 : Int) : Rat) ≤ ((ps[i] : Int) : Rat) := Rat.intCast_le_intCast.mpr h3
    have b : ((ps[i] : Int) : Rat) ≤ ((ms[i].2.2 : Int) : Rat) := Rat.intCast_le_intCast.mpr h4
    rw [Rat.intCast_neg] at a
    exact absR_le_iff.mpr ⟨a, b⟩
  · rw [h1 c]
  · rw [h2 c, Rat.intCast_neg]
theorem rf_far {ms : List Mk} {row ps : List Rat} (F : FarOk (ms.map (·.2.1)) row ps) : RF "far" ms row ps := by
  obtain ⟨m, X⟩ := far_facts F
  obtain ⟨rl, pl⟩ := F.len
  rw [List.length_map] at rl pl
  refine ⟨rl, pl, ?_, ⟨X.hold.1, fun i hi => (X.hold.2 i hi).1, fun i hi => (X.hold.2 i hi).2⟩⟩
  unfold Fair
  rw [if_pos rfl]
  have lm : (missR ms row).length = ms.length := by unfold missR; rw [List.length_zipWith, rl]; omega
  have xg : ∀ i (h : i < ms.length), (missR ms row)[i]'(by omega) = hF (ms.map (·.2.1)) i - row.getD i 0 := fun i h => by
    unfold missR
    rw [List.getElem_zipWith]
    simp [hF, List.getD, h, show i < row.length by omega]
  have pg : ∀ i (h : i < ms.length), ps[i]'(by omega) = ps.getD i 0 := fun i h => by simp [List.getD, show i < ps.length by omega]
  have hl : (ms.map (·.2.1)).length = ms.length := List.length_map _
  have nn : (0 : Rat) ≤ hlf * m := Rat.mul_nonneg (by have := hlf_pos; grind) X.nn
  have top : maxR ((missR ms row).map absR) = hlf * m := by
    refine (maxR_eq nn ?_ fun q hq => ?_).symm
    · rcases X.at1 with e | ⟨i, hi, e⟩
      · exact .inl e
      · rw [hl] at hi
        refine .inr ?_
        rw [← e, ← xg i hi]
        exact List.mem_map.mpr ⟨_, List.getElem_mem _, rfl⟩
    · obtain ⟨x, hx, rfl⟩ := List.mem_map.mp hq
      obtain ⟨i, hi, rfl⟩ := List.getElem_of_mem hx
      rw [xg i (by omega)]
      exact X.le i (by rw [hl]; omega)
  have tz : tot (ps.map absR) = 0 → ∀ p ∈ ps, p = 0 := fun e p hp => by
    have h1 := tot_mem_le (q := absR p) (a := ps.map absR) (fun q hq => by
      obtain ⟨x, _, rfl⟩ := List.mem_map.mp hq
      exact absR_nn x) (List.mem_map.mpr ⟨p, hp, rfl⟩)
    rw [e] at h1
    have h2 := absR_nn p
    rcases absR_cases p with ⟨_, b⟩ | ⟨_, b⟩ <;> rw [b] at h1 h2 <;> grind
  rcases X.all with e | ⟨e, ez⟩
  · refine .inr ⟨fun c => ?_, fun z hz => ?_, e⟩
    · have : tot (ps.map absR) = 0 := by
        have : ps.map absR = ps.map fun _ => (0 : Rat) := List.map_congr_left fun p hp => by rw [c p hp]; exact absR_pos Rat.le_refl
        rw [this]
        exact tot_zeros ps
      rw [this] at e
      exact absurd e (by decide)
    · obtain ⟨i, hi, rfl⟩ := List.getElem_of_mem hz
      rw [List.length_zip] at hi
      rw [List.getElem_zip]
      intro c
      dsimp only at c ⊢
      rw [pg i (by omega)] at c ⊢
      rw [xg i (by omega), top]
      rcases X.fair i (by rw [hl]; omega) with z | ⟨z1, z2⟩
      · exact absurd z c
      · exact ⟨z1, by rw [Rat.mul_comm]; exact z2⟩
  · refine .inl ⟨tz e, fun x hx => ?_⟩
    rw [ez] at top
    exact maxR_zero'.mp top x hx
theorem atI_m3 {ms : List Mk} {k : Int} {j : Nat} (e : k = (j : Int)) (h : j < ms.length) : atI (ms.map mk3) k = some (mk3 ms[j]) := by
  rw [atI_mk (xs := ms) mk3 (by omega) (by omega), e, Int.toNat_natCast]
  simp [h]
section
variable {P : Program} {w : World} {K : PySem.W.Frag} {mg : Str → Option Value} {base : Heap} {A : Adr}
theorem rep_frx (n : Nat) (x : Rat) : (List.replicate n [fr x]).flatten = (List.replicate n x).map fr := by
  rw [List.map_replicate]
  simp
theorem flat_mem_len {B : List Mk} : ∀ {bs : List (List Mk)}, B ∈ bs → B.length ≤ bs.flatten.length
  | C :: bs, h => by
    rw [List.flatten_cons, List.length_append]
    rcases List.mem_cons.mp h with rfl | h
    · omega
    · have := flat_mem_len h; omega
noncomputable def rowQ (kd : Str) (ms : List Mk) : List Rat := lay (levF kd) (poolN (levF kd) ms).reverse
noncomputable def pulQ (ms : List Mk) : List Int := pullsI (levF "sum") (poolN (levF "sum") ms).reverse
theorem lay_snoc (lev : List Mk → Rat) (bs : List (List Mk)) (B : List Mk) : lay lev (bs ++ [B]) = lay lev bs ++ List.replicate B.length (lev B) := by
  unfold lay
  rw [List.map_append, List.flatten_append]
  simp
theorem pullsI_snoc (lev : List Mk → Rat) (bs : List (List Mk)) (B : List Mk) : pullsI lev (bs ++ [B]) = pullsI lev bs ++ plI lev B := by
  unfold pullsI
  rw [List.map_append, List.flatten_append]
  simp
theorem levQ_ex {A : List Mk} (hne : A ≠ []) (hw : ∀ m ∈ A, 1 ≤ m.2.2) : ∃ x, LevelOk "square" A x :=
  ⟨_, fun e => absurd e (by decide), fun e => absurd e (by decide), fun _ => rfl⟩
theorem rowQ_sz {ms : List Mk} {L : Nat} (n30 : ms.length ≤ 30) (L0 : 0 < L) (L1 : L ≤ 10 ^ 22) (hc : ∀ m ∈ ms, Cm L (10 ^ 31) m.2.1) (hw : ∀ m ∈ ms, 1 ≤ m.2.2 ∧ m.2.2 ≤ 10 ^ 20) :
    ∃ M : Nat, 0 < M ∧ M ≤ 10 ^ 670 ∧ L ∣ M ∧ ∀ q ∈ rowQ "square" ms, Cm M (10 ^ 31) q := by
  have hw1 : ∀ m ∈ ms, 1 ≤ m.2.2 := fun m h => (hw m h).1
  obtain ⟨S, e⟩ := sq_blocks hw1
  unfold rowQ
  generalize hb : (poolN (levF "square") ms).reverse = bs at *
  have hne : ∀ B ∈ bs, B ≠ [] := fun B hB => (S.blk B (by rw [← hb] at hB; exact List.mem_reverse.mp hB)).ne
  obtain ⟨p0, p1⟩ := prodW_ms (W := 10 ^ 20) (N := 30) e hne hw n30 (by decide)
  refine ⟨2 * L * prodW bs, Nat.mul_pos (by omega) p0, ?_, ?_, lay_cm (.inr rfl) (fun A h1 h2 => levQ_ex h1 h2) e hne hw1 hc⟩
  · exact Nat.le_trans (Nat.mul_le_mul (Nat.mul_le_mul_left 2 L1) p1) (by decide +kernel)
  · rw [Nat.mul_comm 2 L, Nat.mul_assoc]; exact Nat.dvd_mul_right _ _
structure RiseOk (kd : Str) (ms : List Mk) (row ps : List Rat) : Prop where
  far : kd = "far" → FarOk (ms.map (·.2.1)) row ps
  sq : kd = "square" → row = rowQ "square" ms ∧ ps = wmissR ms row
  sum : kd = "sum" → row = rowQ "sum" ms ∧ ps = (pulQ ms).map fun n : Int => (n : Rat)
theorem rise_rf {kd : Str} {ms : List Mk} {row ps : List Rat} (hk : kd ∈ kdsL) (hw : ∀ m ∈ ms, 1 ≤ m.2.2) (F : RiseOk kd ms row ps) : RF kd ms row ps := by
  have hk3 : kd = "far" ∨ kd = "sum" ∨ kd = "square" := by simpa [kdsL] using hk
  rcases hk3 with rfl | rfl | rfl
  · exact rf_far (F.far rfl)
  · obtain ⟨rfl, rfl⟩ := F.sum rfl
    exact rf_sum (sum_facts hw)
  · obtain ⟨rfl, rfl⟩ := F.sq rfl
    exact rf_sq (sq_facts hw)
theorem far_row {hs row pulls : List Rat} (F : FarOk hs row pulls) {L B : Nat} (h : ∀ q ∈ hs, Cm L B q) : ∀ q ∈ row, Cm (2 * L) (B + 1 * (B + B)) q := fun q hq => by
  obtain ⟨⟨rl, pl⟩, m, sp, hsp, em, hle, hrow, hpull, ho⟩ := F
  obtain ⟨i, hi, rfl⟩ := mem_getD hq
  have hc : ∀ i, i < hs.length → Cm L B (hF hs i) := fun i hi => h _ (rat_mem hi)
  have hp : ∀ i, i < hs.length → pk (hF hs) i < hs.length := fun i hi => by have := pk_le (hF hs) i; omega
  rw [hrow i (by omega)]
  have cm : Cm L (B + B) m := by rw [← em]; exact (hc _ (hp sp hsp)).sub (hc sp hsp)
  have ch : Cm 2 1 hlf := ⟨by decide +kernel, by decide +kernel, by decide +kernel⟩
  exact ((hc _ (hp i (by omega))).mono (Nat.dvd_mul_left _ _) (Nat.le_refl _)).sub (ch.mul cm)
structure RSz (L M : Nat) (row ps : List Rat) : Prop where
  pos : 0 < M
  le : M ≤ 10 ^ 670
  dvd : L ∣ M
  r : ∀ q ∈ row, Cm M (10 ^ 32) q
  p : ∀ q ∈ ps, Cm M (10 ^ 53) q
noncomputable def wRise (C : Addr) : DW := fun ds Q X => ∃ (d : PyData) (ms : List Mk) (L : Nat), ds = [d, .list (ms.map mk3)] ∧ (∀ kd : Str, d = .str kd → PyData.strOk kd = true) ∧ 1 ≤ ms.length ∧ ms.length ≤ 30 ∧ 0 < L ∧ L ≤ 10 ^ 22 ∧ (∀ m ∈ ms, Cm L (10 ^ 31) m.2.1) ∧ (∀ m ∈ ms, 1 ≤ m.2.2 ∧ m.2.2 ≤ 10 ^ 20) ∧ (∀ m ∈ ms, Ok m.1) ∧
  (∀ kd : Str, d = .str kd → kd ∈ kdsL → ∀ row ps, RiseOk kd ms row ps → Q (.two (row.map fr) (ps.map fr))) ∧ ((∀ kd : Str, d = .str kd → kd ∉ kdsL) → X C)
theorem ok_rise_least (T : Txt K mg A) : FnOk P w K mg base (CXE P w) 7 A.a_rise_least A.d_rise_least ["kind", "marks"] (spW K (wRise A.x_NoKind)) := by
  have G_check_kind := ok_check_kind (P := P) (w := w) (base := base) T
  have G_rise_far := ok_rise_far (P := P) (w := w) (base := base) T
  have G_pooled := ok_pooled (P := P) (w := w) (base := base) T
  have G_least_level := ok_least_level (P := P) (w := w) (base := base) T
  have G_level_sum := ok_level_sum (P := P) (w := w) (base := base) T
  have G_weighed_misses := ok_weighed_misses (P := P) (w := w) (base := base) T
  refine okW T.F_rise_least sc_rise_least (fun ds Q E h => ?_) (fun cdv Ar outer s H E hr => ?_)
  · obtain ⟨_, _, _, rfl, _⟩ := h; rfl
  refine ⟨_, (pss_cons (ps_expr (pe_call G_check_kind (hr.mono (by decide)) rfl T.m_check_kind T.F_check_kind.kp T.b_check_kind .nil pass_own (pa_cons (pv 0) pa_nil)))
      (pss_cons (ps_if (pt_cmpR op_eq (pv 0) pe_str (nomark _)) (pss_one (ps_ret (pe_call G_rise_far (hr.mono (by decide)) rfl T.m_rise_far T.F_rise_far.kp T.b_rise_far .nil passE0 (pa_cons (pv 1) pa_nil)))) pss_nil)
      (pss_cons (ps_set (i := 2) sc_rise_least.nd rfl (Or.inl rfl) (pe_call G_pooled (hr.mono (by decide)) rfl T.m_pooled T.F_pooled.kp T.b_pooled .nil passE0 (pa_cons (pv 0) (pa_cons (pv 1) pa_nil))))
      (pss_cons (ps_set (i := 3) sc_rise_least.nd rfl (Or.inl rfl) (pe_lst pa_nil))
      (pss_cons (ps_for PassesOwn.leaving rfl (pilK (K := K) rfl (pv 2)) (pg_name (i := 4) sc_rise_least.nd rfl (Or.inl rfl))
        (pss_one (ps_expr (pe_bm PySem.F.plainAttrs_list PySem.F.slot_list_extend PySem.F.type_list_extend (extSK (K := K) rfl) (pv 3) (pa_cons (pe_op op_rep (pe_lst (pa_cons (pe_call G_least_level (hr.mono (by decide)) rfl T.m_least_level T.F_least_level.kp T.b_least_level .nil passE0 (pa_cons (pv 0) (pa_cons (pv 4) pa_nil))) pa_nil)) (pe_callB (lenK (K := K) rfl) rfl T.n_len PySem.boot_len (pa_cons (pv 4) pa_nil))) pa_nil)))))
      (pss_cons (ps_if (pt_cmpR op_eq (pv 0) pe_str (nomark _)) (pss_one (ps_ret (pe_tup (pa_cons (pv 3) (pa_cons (pe_call G_weighed_misses (hr.mono (by decide)) rfl T.m_weighed_misses T.F_weighed_misses.kp T.b_weighed_misses .nil passE0 (pa_cons (pv 1) (pa_cons (pv 3) pa_nil))) pa_nil))))) pss_nil)
      (pss_cons (ps_set (i := 5) sc_rise_least.nd rfl (Or.inl rfl) (pe_lst pa_nil))
      (pss_cons (ps_for PassesOwn.leaving rfl (pilK (K := K) rfl (pv 2)) (pg_name (i := 4) sc_rise_least.nd rfl (Or.inl rfl))
        (pss_one (ps_expr (pe_bm PySem.F.plainAttrs_list PySem.F.slot_list_extend PySem.F.type_list_extend (extSK (K := K) rfl) (pv 5) (pa_cons (pe_ix (ixtK (K := K) rfl) (pe_call G_level_sum (hr.mono (by decide)) rfl T.m_level_sum T.F_level_sum.kp T.b_level_sum .nil passE0 (pa_cons (pv 4) pa_nil)) pe_int (fun _ _ => rfl)) pa_nil)))))
      (pss_one (ps_ret (pe_tup (pa_cons (pv 3) (pa_cons (pv 5) pa_nil))))))))))))), _, (sv_seq (sv_expr (bv_ev (ev_call (av_cons (bv_var 0) av_nil))))
      (sv_seq (sv_if (tv_test (bv_ev (ev_op ro_eq (bv_var 0) (bv_ev ev_str)))) (sv_retC20 (av_cons (bv_var 1) av_nil)) sv_next)
      (sv_seq (sv_asgN0 (av_cons (bv_var 0) (av_cons (bv_var 1) av_nil)) (gv_name 2))
      (sv_seq (sv_setO 3 (ov_lst ae_nil (by decide)))
      (sv_seq (sv_for (is_list (ev_var 2)) (gv_name 4)
        (sv_ext 3 (bv_ev (ev_ov (ov_rep (mv_ov (ov_lst (ae_cons (ev_call0 (av_cons (bv_var 0) (av_cons (bv_var 4) av_nil))) ae_nil) (by decide))) (bv_ev (ev_cb rb_len (av_cons (bv_var 4) av_nil))))))))
      (sv_seq (sv_if (tv_test (bv_ev (ev_op ro_eq (bv_var 0) (bv_ev ev_str)))) (sv_ret2 (o2_vn 3 (ov_call0 (av_cons (bv_var 1) (av_cons (bv_var 3) av_nil))))) sv_next)
      (sv_seq (sv_setO 5 (ov_lst ae_nil (by decide)))
      (sv_seq (sv_for (is_list (ev_var 2)) (gv_name 4)
        (sv_ext 5 (bv_ixk 1 (bv_call0 (av_cons (bv_var 4) av_nil)))))
      (sv_ret2 (o2_vv 3 5 (by decide))))))))))), ?_⟩
  rintro ds Q X ⟨d, ms, L, rfl, hok, n1, n30, L0, L1, hc, hw, hp, kq, kx⟩
  have hw1 : ∀ m ∈ ms, 1 ≤ m.2.2 := fun m h => (hw m h).1
  have cB : ∀ m ∈ ms, Cm L (10 ^ 100) m.2.1 := fun m h => (hc m h).mono (Nat.dvd_refl _) (by decide +kernel)
  have wB : ∀ m ∈ ms, 1 ≤ m.2.2 ∧ m.2.2 ≤ 10 ^ 100 := fun m h => by
    have := hw m h
    have : (10 : Int) ^ 20 ≤ 10 ^ 100 := by decide +kernel
    omega
  have L2 : L ≤ 10 ^ 100 := Nat.le_trans L1 (by decide +kernel)
  walk_at "s"
  refine ⟨d, rfl, hok, fun h => ?_, fun h => kx h⟩
  obtain ⟨kd, rfl, hkd⟩ := h
  have k0 := kq kd rfl hkd
  clear kq kx hok
  have hk3 : kd = "far" ∨ kd = "sum" ∨ kd = "square" := by simpa [kdsL] using hkd
  rcases hk3 with rfl | rfl | rfl
  · walk_at "s"
    refine ⟨ms, rfl, n1, by omega, fun m h => ?_, fun row ps F => ?_⟩
    · exact ((hc m h).dg L0 L1 (b := 31) (Nat.le_refl _)).mono (by decide)
    · walk_at "d"
      exact k0 row ps ⟨fun _ => F, fun e => absurd e (by decide), fun e => absurd e (by decide)⟩
  · obtain ⟨S, e⟩ := sum_blocks hw1
    have k := k0 (rowQ "sum" ms) ((pulQ ms).map fun n : Int => (n : Rat)) ⟨fun e => absurd e (by decide), fun e => absurd e (by decide), fun _ => ⟨rfl, rfl⟩⟩
    rw [List.map_map] at k
    change Q (.two ((rowQ "sum" ms).map fr) ((pulQ ms).map frI)) at k
    unfold rowQ pulQ at k
    walk_at "s"
    rw [if_neg (by decide)]
    walk_at "s"
    refine ⟨"sum", ms, L, rfl, .inl rfl, by omega, L0, L2, cB, wB, ?_⟩
    generalize hb : (poolN (levF "sum") ms).reverse = bs at *
    have Sb : ∀ B ∈ bs, Blk GeM LeM B (levF "sum" B) := fun B hB => S.blk B (by rw [← hb] at hB; exact List.mem_reverse.mp hB)
    have sub : ∀ B ∈ bs, ∀ z ∈ B, z ∈ ms := fun B hB z hz => by rw [← e]; exact List.mem_flatten.mpr ⟨B, hB, hz⟩
    have B60 : ∀ B ∈ bs, B.length ≤ 60 := fun B hB => by
      have := flat_mem_len hB
      rw [e] at this; omega
    have tk : ∀ {i : Nat} {B : List Mk}, bs[i]? = some B → bs.take (i + 1) = bs.take i ++ [B] ∧ (bs.take i).flatten.length + B.length ≤ 60 := fun {i B} hi => by
      have et : bs.take (i + 1) = bs.take i ++ [B] := by rw [List.take_add_one, hi]; rfl
      refine ⟨et, ?_⟩
      have h1 : (bs.take (i + 1)).flatten.length ≤ bs.flatten.length := by
        conv => rhs; rw [← List.take_append_drop (i + 1) bs, List.flatten_append, List.length_append]
        omega
      rw [e, et, List.flatten_append, List.length_append, List.flatten_cons, List.flatten_nil, List.append_nil] at h1
      omega
    walk_at "s"
    walk_at "s"
    refine seq_mk (for_map encB bs (fun Q h => by walk_at "d"; exact h)
      (fun i δ => ∃ t1 : Option Sl, δ = [some (.dat (.str "sum")), some (.dat (.list (ms.map mk3))), some (.dat (.list (bs.map encB))), some (.own ((lay (levF "sum") (bs.take i)).map fr)), t1, none])
      ⟨_, rfl⟩ ?_ ?_)
    · rintro i B δ hi ⟨t1, rfl⟩
      have hB : B ∈ bs := List.mem_of_getElem? hi
      obtain ⟨et, tl⟩ := tk hi
      have ll := lay_len (levF "sum") (bs.take i)
      have Bne := (Sb B hB).ne
      have b60 := B60 B hB
      rw [et, lay_snoc]
      walk_at "d"
      refine ⟨"sum", B, L, rfl, by simp [kdsL], List.length_pos_iff.mpr Bne, b60, L0, L2, fun m h => cB m (sub B hB m h), fun m h => wB m (sub B hB m h), fun x hx => ⟨rfl, ?_⟩⟩
      rw [levF_eq (.inl rfl) Bne (fun m h => hw1 m (sub B hB m h)) hx]
      unfold encB
      dsimp only
      rw [List.length_map, Int.toNat_natCast, rep_frx]
      refine ⟨⟨by omega, by omega⟩, by omega, ?_⟩
      refine ⟨frs_flat _, by rw [List.length_map, List.length_replicate]; omega, _, by rw [List.map_append]⟩
    rintro δ ⟨t1, rfl⟩
    rw [List.take_length]
    walk_at "s"
    rw [if_neg (by decide)]
    walk_at "s"
    walk_at "s"
    refine seq_mk (for_map encB bs (fun Q h => by walk_at "d"; exact h)
      (fun i δ => ∃ t1 : Option Sl, δ = [some (.dat (.str "sum")), some (.dat (.list (ms.map mk3))), some (.dat (.list (bs.map encB))), some (.own ((lay (levF "sum") bs).map fr)), t1, some (.own ((pullsI (levF "sum") (bs.take i)).map frI))])
      ⟨_, rfl⟩ ?_ ?_)
    · rintro i B δ hi ⟨t1, rfl⟩
      have hB : B ∈ bs := List.mem_of_getElem? hi
      obtain ⟨et, tl⟩ := tk hi
      have ll := pullsI_len (levF "sum") (bs.take i)
      have Bne := (Sb B hB).ne
      have b60 := B60 B hB
      rw [et, pullsI_snoc]
      walk_at "d"
      refine ⟨B, L, rfl, List.length_pos_iff.mpr Bne, b60, L0, L2, fun m h => cB m (sub B hB m h), fun m h => wB m (sub B hB m h), fun m h => hp m (sub B hB m h), fun x hx => ?_⟩
      have ex := levF_eq (.inl rfl) Bne (fun m h => hw1 m (sub B hB m h)) hx
      have ep : plI (levF "sum") B = early x (-fixS x B) B := by unfold plI; rw [ex]
      rw [ep]
      walk_at "d"
      refine ⟨frIs_flat _, ?_, _, by rw [List.map_append]⟩
      rw [early_len]; omega
    · rintro δ ⟨t1, rfl⟩
      rw [List.take_length]
      walk_at "d"
      exact k
  · obtain ⟨M, M0, M1, LM, hr⟩ := rowQ_sz n30 L0 L1 hc hw
    obtain ⟨S, e⟩ := sq_blocks hw1
    have k := k0 (rowQ "square" ms) (wmissR ms (rowQ "square" ms)) ⟨fun e => absurd e (by decide), fun _ => ⟨rfl, rfl⟩, fun e => absurd e (by decide)⟩
    unfold rowQ at hr k
    walk_at "s"
    rw [if_neg (by decide)]
    walk_at "s"
    refine ⟨"square", ms, L, rfl, .inr rfl, by omega, L0, Nat.le_trans L1 (by decide +kernel), cB, wB, ?_⟩
    generalize hb : (poolN (levF "square") ms).reverse = bs at *
    have Sb : ∀ B ∈ bs, Blk GeS LeS B (levF "square" B) := fun B hB => S.blk B (by rw [← hb] at hB; exact List.mem_reverse.mp hB)
    have sub : ∀ B ∈ bs, ∀ z ∈ B, z ∈ ms := fun B hB z hz => by rw [← e]; exact List.mem_flatten.mpr ⟨B, hB, hz⟩
    walk_at "s"
    walk_at "s"
    refine seq_mk (for_map encB bs (fun Q h => by walk_at "d"; exact h)
      (fun i δ => ∃ t1 : Option Sl, δ = [some (.dat (.str "square")), some (.dat (.list (ms.map mk3))), some (.dat (.list (bs.map encB))), some (.own ((lay (levF "square") (bs.take i)).map fr)), t1, none])
      ⟨_, rfl⟩ ?_ ?_)
    · rintro i B δ hi ⟨t1, rfl⟩
      have hB : B ∈ bs := List.mem_of_getElem? hi
      have et : bs.take (i + 1) = bs.take i ++ [B] := by rw [List.take_add_one, hi]; rfl
      have ll := lay_len (levF "square") bs
      have l2 := lay_len (levF "square") (bs.take (i + 1))
      have Bne := (Sb B hB).ne
      have B60 : B.length ≤ 60 := by
        have := flat_mem_len hB
        rw [e] at this; omega
      have tl : (lay (levF "square") (bs.take i)).length + B.length ≤ 60 := by
        have h1 : (bs.take (i + 1)).flatten.length ≤ bs.flatten.length := by
          conv => rhs; rw [← List.take_append_drop (i + 1) bs, List.flatten_append, List.length_append]
          omega
        rw [e] at h1
        rw [et, lay_snoc, List.length_append, List.length_replicate] at l2
        rw [et] at h1
        omega
      rw [et, lay_snoc]
      walk_at "d"
      refine ⟨"square", B, L, rfl, by simp [kdsL], List.length_pos_iff.mpr Bne, B60, L0, Nat.le_trans L1 (by decide +kernel), fun m h => cB m (sub B hB m h), fun m h => wB m (sub B hB m h), fun x hx => ⟨rfl, ?_⟩⟩
      rw [levF_eq (.inr rfl) Bne (fun m h => hw1 m (sub B hB m h)) hx]
      unfold encB
      dsimp only
      rw [List.length_map, Int.toNat_natCast, rep_frx]
      refine ⟨⟨by omega, by omega⟩, by omega, ?_⟩
      refine ⟨frs_flat _, by rw [List.length_map, List.length_replicate]; omega, _, by rw [List.map_append]⟩
    · rintro δ ⟨t1, rfl⟩
      rw [List.take_length]
      walk_at "s"
      refine ⟨ms, lay (levF "square") bs, M, 10 ^ 31, 10 ^ 20, 670, 31, 20, rfl, ⟨by omega, M0, M1, Nat.le_refl _, Nat.le_refl _, fun m h => (hc m h).mono LM (Nat.le_refl _), hr, fun m h => ?_, by decide⟩, ?_⟩
      · have := hw m h; omega
      · walk_at "d"
        exact ⟨frs_flat _, k⟩
noncomputable def wShown (C : Addr) : DW := fun ds Q X => ∃ (d : PyData) (ms : List Mk) (row ps : List Rat) (L B W l b wd L2 B2 l2 b2 : Nat), ds = [d, .list (ms.map mk3), .list (row.map fr), .list (ps.map fr)] ∧ MSz L B W l b wd ms row ∧ PSz L2 B2 l2 b2 ps ∧ ms ≠ [] ∧ row.length = ms.length ∧ ps.length = ms.length ∧ (∀ kd : Str, d = .str kd → PyData.strOk kd = true) ∧ l2 + b2 + 4 ≤ 2400 ∧
  (∀ kd : Str, d = .str kd → kd ∈ kdsL → ∀ b : Bool, (b = true ↔ (Fair kd ms row ps ∧ Rises row ∧ Holds row ps)) → Q (.dat (.bool b))) ∧ ((∀ kd : Str, d = .str kd → kd ∉ kdsL) → X C)
theorem ok_rise_shown (T : Txt K mg A) : FnOk P w K mg base (CXE P w) 7 A.a_rise_shown A.d_rise_shown ["kind", "marks", "row", "pulls"] (spW K (wShown A.x_NoKind)) := by
  have G_is_fair := ok_is_fair (P := P) (w := w) (base := base) T
  have G_rises := ok_rises (P := P) (w := w) (base := base) T
  have G_holds_up := ok_holds_up (P := P) (w := w) (base := base) T
  refine okW T.F_rise_shown sc_rise_shown (fun ds Q E h => ?_) (fun cdv Ar outer s H E hr => ?_)
  · obtain ⟨_, _, _, _, _, _, _, _, _, _, _, _, _, _, rfl, _⟩ := h; rfl
  refine ⟨_, (pss_cons (ps_set (i := 4) sc_rise_shown.nd rfl (Or.inl rfl) (pe_call G_is_fair (hr.mono (by decide)) rfl T.m_is_fair T.F_is_fair.kp T.b_is_fair .nil pass_own (pa_cons (pv 0) (pa_cons (pv 1) (pa_cons (pv 2) (pa_cons (pv 3) pa_nil))))))
      (pss_one (ps_ret (pe_and (pv 4) (pe_and (pe_call G_rises (hr.mono (by decide)) rfl T.m_rises T.F_rises.kp T.b_rises .nil passE0 (pa_cons (pv 2) pa_nil)) (pe_one (pe_call G_holds_up (hr.mono (by decide)) rfl T.m_holds_up T.F_holds_up.kp T.b_holds_up .nil passE0 (pa_cons (pv 2) (pa_cons (pv 3) pa_nil))))))))), _, (sv_seq (sv_asg (ev_call (av_cons (bv_var 0) (av_cons (bv_var 1) (av_cons (bv_var 2) (av_cons (bv_var 3) av_nil))))) (gv_name 4))
      (sv_ret (bv_ev (ev_and (bv_var 4) (ev_and (bv_ev (ev_call0 (av_cons (bv_var 2) av_nil))) (ev_call0 (av_cons (bv_var 2) (av_cons (bv_var 3) av_nil)))))))), ?_⟩
  rintro ds Q X ⟨d, ms, row, ps, L, B, W, l, b, wd, L2, B2, l2, b2, rfl, z, y, hne, hlr, hlp, ok, lb, kq, kx⟩
  walk_at "s"
  refine ⟨d, ms, row, ps, L, B, W, l, b, wd, L2, B2, l2, b2, rfl, z, y, hne, hlr, hlp, ok, fun kd e hk f hf => ?_, kx⟩
  have k := kq kd e hk
  have n60 := z.len
  walk_at "d"
  cases f with
  | false =>
    walk_at "d"
    exact k false ⟨fun h => absurd h (by decide), fun h => absurd (hf.mpr h.1) (by decide)⟩
  | true =>
    have F := hf.mp rfl
    walk_at "d"
    refine ⟨row, rfl, by omega, z.rOk, fun r hr2 => ?_⟩
    walk_at "d"
    cases r with
    | false =>
      walk_at "d"
      exact k false ⟨fun h => absurd h (by decide), fun h => absurd (hr2.mpr h.2.1) (by decide)⟩
    | true =>
      have R := hr2.mp rfl
      walk_at "d"
      refine ⟨row, ps, L2, B2, l2, b2, rfl, by omega, by omega, y.pos, y.pL, y.pB, y.h, lb, fun v hv => ?_⟩
      walk_at "d"
      exact k v ⟨fun h => ⟨F, R, hv.mp h⟩, fun h => hv.mpr h.2.2⟩
end
noncomputable def cellF (ns : List Int) (k : Int) : Int := if k < (ns.length : Int) then ns.getD k.toNat default else 5 * k * k + 9 * k + 2
theorem cellF_bg {ns : List Int} (h : ∀ v ∈ ns, Builtin.Int.intBits v ≤ 1048576) {k : Int} (h0 : 0 ≤ k) (h1 : k ≤ 1000) : Bg 1048577 (cellF ns k) := by
  unfold cellF
  split
  · exact Bg.of (getD_all (p := fun v => Builtin.Int.intBits v ≤ 1048576) h (by decide))
  · refine Bg.small ?_ (by decide)
    have h2 : 5 * k * k ≤ 5000 * 1000 := Int.mul_le_mul (by omega) h1 h0 (by omega)
    have h3 : 0 ≤ 5 * k * k := Int.mul_nonneg (by omega) h0
    omega
section
variable {P : Program} {w : World} {K : PySem.W.Frag} {mg : Str → Option Value} {base : Heap} {A : Adr}
noncomputable def wCell : DW := fun ds Q _ => ∃ (ns : List Int) (k : Int), ds = [.list (ns.map .int), .int k] ∧ 0 ≤ k ∧ k ≤ 1000 ∧ Q (.dat (.int (cellF ns k)))
theorem ok_law_cell (T : Txt K mg A) : FnOk P w K mg base (CXE P w) 1 A.a_law_cell A.d_law_cell ["script", "k"] (spW K wCell) := by
  refine okW T.F_law_cell sc_law_cell (fun ds Q E h => ?_) (fun cdv Ar outer s H E hr => ?_)
  · obtain ⟨_, _, rfl, _⟩ := h; rfl
  refine ⟨_, (pss_cons (ps_if (pt_cmpR op_lt (pv 1) (pe_callB (lenK (K := K) rfl) rfl T.n_len PySem.boot_len (pa_cons (pv 0) pa_nil)) (nomark _)) (pss_one (ps_ret (pe_ix (ixlK (K := K) rfl) (pv 0) (pv 1) (fun _ _ => rfl)))) pss_nil)
      (pss_one (ps_ret (pe_op op_add (pe_op op_add (pe_op op_mulB (pe_op op_mulB pe_int (pv 1)) (pv 1)) (pe_op op_mulB pe_int (pv 1))) pe_int)))), _, (sv_seq (sv_if (tv_test (bv_ev (ev_op ro_b0 (bv_var 1) (bv_ev (ev_cb rb_len (av_cons (bv_var 0) av_nil)))))) (sv_ret (bv_ev (ev_ixl (lv_var 0) (bv_var 1)))) sv_next)
      (sv_ret (bv_ev (ev_op ro_i0 (bv_ev (ev_op ro_i0 (bv_ev (ev_op ro_i (bv_ev (ev_op ro_i (bv_ev ev_int) (bv_var 1))) (bv_var 1))) (bv_ev (ev_op ro_i (bv_ev ev_int) (bv_var 1))))) (bv_ev ev_int))))), ?_⟩
  rintro ds Q X ⟨ns, k, rfl, h0, h1, kq⟩
  unfold cellF at kq
  walk_at "s"
  refine ite2 (fun c => ?_) (fun c => ?_)
  · rw [if_pos c] at kq
    exact ⟨_, atI_mk PyData.int h0 c, kq⟩
  · rw [if_neg c] at kq
    walk_at "d"
    exact ⟨mulOk (wee (by decide +kernel)) (weeLe (n := 1000) (by omega) (by decide +kernel)), mulOk (weeLe (n := 5000) (by omega) (by decide +kernel)) (weeLe (n := 1000) (by omega) (by decide +kernel)), mulOk (wee (by decide +kernel)) (weeLe (n := 1000) (by omega) (by decide +kernel)), kq⟩
noncomputable def wLow : DW := fun ds Q _ => ∃ t b : Int, ds = [.int t, .int b] ∧ 1 ≤ b ∧ Wee b ∧ Q (.dat (fr (Rat.divInt t b)))
theorem ok_law_low (T : Txt K mg A) : FnOk P w K mg base (CXE P w) 1 A.a_law_low A.d_law_low ["top", "bottom"] (spW K wLow) := by
  refine okW T.F_law_low sc_law_low (fun ds Q E h => ?_) (fun cdv Ar outer s H E hr => ?_)
  · obtain ⟨_, _, rfl, _⟩ := h; rfl
  refine ⟨_, (pss_cons (ps_set (i := 2) sc_law_low.nd rfl (Or.inl rfl) (pe_callB call_abs rfl T.n_abs bt_abs (pa_cons (pv 0) pa_nil)))
      (pss_cons (ps_set (i := 3) sc_law_low.nd rfl (Or.inl rfl) (pv 1))
      (pss_cons (ps_while PassesOwn.leaving (pt_cmpR op_gt (pv 3) pe_int (nomark _)) (pss_one (ps_par (i := 2) (j := 3) rfl sc_law_low.nd rfl rfl (by decide) rfl rfl (pa_cons (pv 3) (pa_cons (pe_op op_mod (pv 2) (pv 3)) pa_nil)) rfl)))
      (pss_one (ps_ret (pe_tup (pa_cons (pe_op op_fdivB (pv 0) (pv 2)) (pa_cons (pe_op op_fdivB (pv 1) (pv 2)) pa_nil)))))))), _, (sv_seq (sv_asg (ev_cb rb_abs (av_cons (bv_var 0) av_nil)) (gv_name 2))
      (sv_seq (sv_asg (ev_var 1) (gv_name 3))
      (sv_seq (sv_while (tv_test (bv_ev (ev_op ro_b0 (bv_var 3) (bv_ev ev_int)))) (sv_par 2 3 (ae_cons (ev_var 3) (ae_cons (ev_op ro_i (bv_var 2) (bv_var 3)) ae_nil))))
      (sv_ret (bv_ev (ev_tup (ae_cons (ev_op ro_i (bv_var 0) (bv_var 2)) (ae_cons (ev_op ro_i (bv_var 1) (bv_var 2)) ae_nil)) (by decide))))))), ?_⟩
  rintro ds Q X ⟨t, b, rfl, hb, hw, k⟩
  walk_at "s"
  walk_at "s"
  refine seq_mk ?_
  refine ⟨fun m δ => ∃ x y : Int, δ = [some (.dat (.int t)), some (.dat (.int b)), some (.dat (.int x)), some (.dat (.int y))] ∧ m = y.toNat ∧ 0 ≤ x ∧ 0 ≤ y ∧ Int.gcd x y = Int.gcd t b, ⟨_, _, b, rfl, rfl, by split <;> omega, by omega, by rw [Fm.abs_if]; simp [Int.gcd]⟩, ?_⟩
  rintro m δ ⟨x, y, rfl, rfl, hx, hy, hg⟩
  walk_at "d"
  refine ite2 (fun c => ?_) (fun c => ?_)
  · refine ⟨c, _, ?_, y, x % y, rfl, rfl, hy, Int.emod_nonneg _ (by omega), ?_⟩
    · have := Int.emod_lt_of_pos x c
      have := Int.emod_nonneg x (show y ≠ 0 by omega)
      omega
    · rw [Fm.gcd_step x y c, hg]
  · have hy0 : y = 0 := by omega
    subst hy0
    have ex : x = ((Int.gcd t b : Nat) : Int) := by rw [← hg, Fm.gcd_zero hx]
    have g0 : (0 : Int) < ((Int.gcd t b : Nat) : Int) := by have := Fm.gcd_pos_right (a := t) (b := b) (by omega); omega
    have gw : Wee ((Int.gcd t b : Nat) : Int) := wee_nat (Fm.gcd_le_right (a := t) (b := b) (by omega)) hw
    obtain ⟨e1, e2⟩ := Fm.fr_pos (t := t) (b := b) (by omega)
    rw [ex]
    refine ⟨⟨g0, gw⟩, ⟨g0, gw⟩, ?_⟩
    rw [e1, e2]
    exact k
end
noncomputable abbrev pr (p : Int × Int) : PyData := .tuple [.int p.1, .int p.2]
section
variable {P : Program} {w : World} {K : PySem.W.Frag} {mg : Str → Option Value} {base : Heap} {A : Adr}
noncomputable def wSumP : DW := fun ds Q _ => ∃ (t b u c : Int) (n m : Nat), ds = [pr (t, b), pr (u, c)] ∧ 0 < b ∧ 0 < c ∧ t.natAbs ≤ 10 ^ n ∧ b.natAbs ≤ 10 ^ n ∧ u.natAbs ≤ 10 ^ m ∧ c.natAbs ≤ 10 ^ m ∧ n + m ≤ 2400 ∧ Q (.dat (fr (Rat.divInt t b + Rat.divInt u c)))
theorem sum_fr {a b : Rat} {n m : Nat} {Q : Sl → Prop} {X : DX} (ha : Dg n a) (hb : Dg m b) (l : n + m ≤ 2400) (k : Q (.dat (fr (a + b)))) : wSumP [fr a, fr b] Q X := by
  have h1 := Fm.den_pos a
  have h2 := Fm.den_pos b
  refine ⟨a.num, a.den, b.num, b.den, n, m, rfl, by omega, by omega, ha.n, by have := ha.d; omega, hb.n, by have := hb.d; omega, l, ?_⟩
  rw [Rat.num_divInt_den, Rat.num_divInt_den]
  exact k
theorem sum_fp {a : Rat} {u c : Int} {n m : Nat} {Q : Sl → Prop} {X : DX} (ha : Dg n a) (hc : 0 < c) (hu : u.natAbs ≤ 10 ^ m) (hc2 : c.natAbs ≤ 10 ^ m) (l : n + m ≤ 2400) (k : Q (.dat (fr (a + Rat.divInt u c)))) : wSumP [fr a, pr (u, c)] Q X := by
  have h1 := Fm.den_pos a
  refine ⟨a.num, a.den, u, c, n, m, rfl, by omega, hc, ha.n, by have := ha.d; omega, hu, hc2, l, ?_⟩
  rw [Rat.num_divInt_den]
  exact k
theorem add_div2 {t b u c : Int} (hb : 0 < b) (hc : 0 < c) : Rat.divInt (t * c + u * b) (b * c) = Rat.divInt t b + Rat.divInt u c := by
  have hb0 : (b : Rat) ≠ 0 := fun z => by have := Rat.intCast_eq_zero_iff.mp z; omega
  have hc0 : (c : Rat) ≠ 0 := fun z => by have := Rat.intCast_eq_zero_iff.mp z; omega
  refine (Fm.eq_divInt (Int.mul_ne_zero (by omega) (by omega)) ?_).symm
  rw [Fm.mk_div t b (by omega), Fm.mk_div u c (by omega), Rat.intCast_add, Rat.intCast_mul, Rat.intCast_mul, Rat.intCast_mul]
  have e1 : (t : Rat) / b * b = t := Rat.div_mul_cancel hb0
  have e2 : (u : Rat) / c * c = u := Rat.div_mul_cancel hc0
  generalize (t : Rat) / b = x at e1 ⊢
  generalize (u : Rat) / c = y at e2 ⊢
  rw [← e1, ← e2]
  grind
theorem ok_law_sum (T : Txt K mg A) : FnOk P w K mg base (CXE P w) 2 A.a_law_sum A.d_law_sum ["one", "other"] (spW K wSumP) := by
  have G_law_low := ok_law_low (P := P) (w := w) (base := base) T
  refine okW T.F_law_sum sc_law_sum (fun ds Q E h => ?_) (fun cdv Ar outer s H E hr => ?_)
  · obtain ⟨_, _, _, _, _, _, rfl, _⟩ := h; rfl
  refine ⟨_, (pss_one (ps_ret (pe_call G_law_low (hr.mono (by decide)) rfl T.m_law_low T.F_law_low.kp T.b_law_low .nil passE0 (pa_cons (pe_op op_add (pe_op op_mulB (pe_ix (ixtK (K := K) rfl) (pv 0) pe_int (fun _ _ => rfl)) (pe_ix (ixtK (K := K) rfl) (pv 1) pe_int (fun _ _ => rfl))) (pe_op op_mulB (pe_ix (ixtK (K := K) rfl) (pv 1) pe_int (fun _ _ => rfl)) (pe_ix (ixtK (K := K) rfl) (pv 0) pe_int (fun _ _ => rfl)))) (pa_cons (pe_op op_mulB (pe_ix (ixtK (K := K) rfl) (pv 0) pe_int (fun _ _ => rfl)) (pe_ix (ixtK (K := K) rfl) (pv 1) pe_int (fun _ _ => rfl))) pa_nil))))), _, (sv_ret (bv_ev (ev_call0 (av_cons (bv_ev (ev_op ro_i0 (bv_ev (ev_op ro_i (bv_ev (ev_ixk 0 (ev_var 0))) (bv_ev (ev_ixk 1 (ev_var 1))))) (bv_ev (ev_op ro_i (bv_ev (ev_ixk 0 (ev_var 1))) (bv_ev (ev_ixk 1 (ev_var 0))))))) (av_cons (bv_ev (ev_op ro_i (bv_ev (ev_ixk 1 (ev_var 0))) (bv_ev (ev_ixk 1 (ev_var 1))))) av_nil))))), ?_⟩
  rintro ds Q X ⟨t, b, u, c, n, m, rfl, hb, hc, b1, b2, b3, b4, l, k⟩
  have w1 := tenWee b1 (by omega)
  have w2 := tenWee b2 (by omega)
  have w3 := tenWee b3 (by omega)
  have w4 := tenWee b4 (by omega)
  walk_at "d"
  have hp := Int.mul_pos hb hc
  refine ⟨mulOk w1 w4, mulOk w3 w2, mulOk w2 w4, _, _, rfl, by omega, tenWee (n := n + m) (by rw [Int.natAbs_mul, Nat.pow_add]; exact Nat.mul_le_mul b2 b4) l, ?_⟩
  rw [add_div2 hb hc]
  walk_at "d"
  exact k
noncomputable def wLLess : DW := fun ds Q _ => ∃ a b : Rat, ds = [fr a, fr b] ∧ Ok a ∧ Ok b ∧ Q (.dat (.bool (decide (a < b))))
theorem ok_law_less (T : Txt K mg A) : FnOk P w K mg base (CXE P w) 1 A.a_law_less A.d_law_less ["one", "other"] (spW K wLLess) := by
  refine okW T.F_law_less sc_law_less (fun ds Q E h => ?_) (fun cdv Ar outer s H E hr => ?_)
  · obtain ⟨_, _, rfl, _⟩ := h; rfl
  refine ⟨_, (pss_one (ps_ret (pe_cmpR op_lt (pe_op op_mulB (pe_ix (ixtK (K := K) rfl) (pv 0) pe_int (fun _ _ => rfl)) (pe_ix (ixtK (K := K) rfl) (pv 1) pe_int (fun _ _ => rfl))) (pe_op op_mulB (pe_ix (ixtK (K := K) rfl) (pv 1) pe_int (fun _ _ => rfl)) (pe_ix (ixtK (K := K) rfl) (pv 0) pe_int (fun _ _ => rfl))) (nomark _)))), _, (sv_ret (bv_ev (ev_op ro_b0 (bv_ev (ev_op ro_i (bv_ev (ev_ixk 0 (ev_var 0))) (bv_ev (ev_ixk 1 (ev_var 1))))) (bv_ev (ev_op ro_i (bv_ev (ev_ixk 0 (ev_var 1))) (bv_ev (ev_ixk 1 (ev_var 0)))))))), ?_⟩
  rintro ds Q X ⟨a, b, rfl, oa, ob, k⟩
  walk_at "d"
  refine ⟨mulOk oa.n ob.d, mulOk ob.n oa.d, ?_⟩
  have e : decide (a.num * (b.den : Int) < b.num * (a.den : Int)) = decide (a < b) := by rw [decide_eq_decide]; exact Fm.less_iff a b
  rw [e]
  exact k
theorem set_all {α : Type} {p : α → Prop} {xs : List α} {j : Nat} {x : α} (h : ∀ y ∈ xs, p y) (hx : p x) : ∀ y ∈ xs.set j x, p y := fun y hy => by
  rcases List.mem_or_eq_of_mem_set hy with z | z
  · exact h y z
  · rw [z]; exact hx
theorem atI_it {ws : List Int} {k : Int} {j : Nat} (e : k = (j : Int)) (h : j < ws.length) : atI (ws.map PyData.int) k = some (.int (ws.getD j 0)) := by
  rw [atI_mk (xs := ws) PyData.int (by omega) (by omega), e, Int.toNat_natCast]
  rfl
theorem int_mem {xs : List Int} {j : Nat} (h : j < xs.length) : xs.getD j 0 ∈ xs := by
  have e : xs.getD j 0 = xs[j] := by simp [List.getD, h]
  rw [e]; exact List.getElem_mem h
theorem rep_int (n : Nat) (v : Int) : (List.replicate n [PyData.int v]).flatten = (List.replicate n v).map PyData.int := by
  rw [List.map_replicate]
  simp
structure MkOk (ms : List Mk) (bt : Int) : Prop where
  n1 : 1 ≤ ms.length
  n12 : ms.length ≤ 12
  b1 : 1 ≤ bt
  b2 : bt ≤ 12
  h : ∀ m ∈ ms, Cm bt.toNat 400 m.2.1
  w : ∀ m ∈ ms, 1 ≤ m.2.2 ∧ m.2.2 ≤ 200
  p : ∀ m ∈ ms, ∃ i : Int, m.1 = (i : Rat) ∧ i.natAbs ≤ 100
noncomputable def wMarks57 : DW := fun ds Q _ => ∃ ns : List Int, ds = [.list (ns.map .int)] ∧ ns.length ≤ 63 ∧ (∀ v ∈ ns, Builtin.Int.intBits v ≤ 1048576) ∧ ∀ (ms : List Mk) (bt : Int), MkOk ms bt → Q (.own (ms.map mk3))
theorem ok_law_marks (T : Txt K mg A) : FnOk P w K mg base (CXE P w) 2 A.a_law_marks A.d_law_marks ["script"] (spW K wMarks57) := by
  have G_law_cell := ok_law_cell (P := P) (w := w) (base := base) T
  have G_law_low := ok_law_low (P := P) (w := w) (base := base) T
  refine okW T.F_law_marks sc_law_marks (fun ds Q E h => ?_) (fun cdv Ar outer s H E hr => ?_)
  · obtain ⟨_, rfl, _⟩ := h; rfl
  refine ⟨_, (pss_cons (ps_set (i := 1) sc_law_marks.nd rfl (Or.inl rfl) (pe_op op_add pe_int (pe_op op_mod (pe_call G_law_cell (hr.mono (by decide)) rfl T.m_law_cell T.F_law_cell.kp T.b_law_cell .nil passE0 (pa_cons (pv 0) (pa_cons pe_int pa_nil))) pe_int)))
      (pss_cons (ps_set (i := 2) sc_law_marks.nd rfl (Or.inr rfl) (pe_op op_rep (pe_lst (pa_cons pe_int pa_nil)) (pv 1)))
      (pss_cons (ps_set (i := 3) sc_law_marks.nd rfl (Or.inr rfl) (pe_op op_rep (pe_lst (pa_cons pe_int pa_nil)) (pv 1)))
      (pss_cons (ps_for PassesOwn.leaving rfl (pi_enumerate (K := K) rfl rfl T.n_enumerate (pa_cons (pe_slice (sllK (K := K) rfl) (pv 0) (po_some pe_int) (po_some pe_int)) pa_nil)) (pgtK (K := K) (n := 2) rfl rfl (pgs_cons (pg_name (i := 4) sc_law_marks.nd rfl (Or.inl rfl)) (pgs_cons (pg_name (i := 5) sc_law_marks.nd rfl (Or.inl rfl)) pgs_nil)))
        (pss_cons (ps_asg (pe_op op_sub (pe_op op_add (pe_ix (ixlK (K := K) rfl) (pv 2) (pe_op op_mod (pv 4) (pv 1)) (fun _ _ => rfl)) (pe_op op_mod (pv 5) pe_int)) pe_int) (pg_sub (pv 2) (pe_op op_mod (pv 4) (pv 1)) set_list))
      (pss_one (ps_asg (pe_op op_add (pe_ix (ixlK (K := K) rfl) (pv 3) (pe_op op_mod (pv 4) (pv 1)) (fun _ _ => rfl)) (pe_op op_mod (pe_op op_fdivB (pv 5) pe_int) pe_int)) (pg_sub (pv 3) (pe_op op_mod (pv 4) (pv 1)) set_list)))))
      (pss_cons (ps_set (i := 6) sc_law_marks.nd rfl (Or.inr rfl) (pe_op op_add pe_int (pe_op op_mod (pe_call G_law_cell (hr.mono (by decide)) rfl T.m_law_cell T.F_law_cell.kp T.b_law_cell .nil passE0 (pa_cons (pv 0) (pa_cons pe_int pa_nil))) pe_int)))
      (pss_one (ps_ret (pe_lc (cap := [none, some 6, some 3, some 2]) (NC := ["k", "bottom", "weights", "tops"]) rfl ⟨rfl, rfl, by decide +kernel, by decide +kernel, ⟨⟨_, rfl, rfl, rfl, rfl, rfl⟩, ⟨⟨_, rfl, rfl, rfl, rfl, rfl⟩, ⟨⟨_, rfl, rfl, rfl, rfl, rfl⟩, trivial⟩⟩⟩, (List.forall_mem_cons.2 ⟨rfl, (List.forall_mem_cons.2 ⟨rfl, (List.forall_mem_cons.2 ⟨rfl, (fun _ h => nomatch h)⟩)⟩)⟩), rfl⟩ (pi_range1 rfl T.n_range (pa_cons (pv 1) pa_nil)) (fun _ _ _ _ => (pg_name (i := 0) (show List.Nodup (["k", "bottom", "weights", "tops"] : List Str) by decide) rfl (Or.inl rfl))) (fun _ _ _ _ => pts_nil) (fun _ _ _ _ => (pe_tup (pa_cons (pe_tup (pa_cons (pe_op op_sub (pe_op op_mulB pe_int (pv 0)) pe_int) (pa_cons pe_int pa_nil))) (pa_cons (pe_call G_law_low (hr.mono (by decide)) rfl T.m_law_low T.F_law_low.kp T.b_law_low .nil passE0 (pa_cons (pe_ix (ixlK (K := K) rfl) (pv 3) (pv 0) (fun _ _ => rfl)) (pa_cons (pv 1) pa_nil))) (pa_cons (pe_ix (ixlK (K := K) rfl) (pv 2) (pv 0) (fun _ _ => rfl)) pa_nil))))))))))))), _, (sv_seq (sv_asg (ev_op ro_i0 (bv_ev ev_int) (bv_ev (ev_mdk (k := 8) (by decide) (bv_ev (ev_call0 (av_cons (bv_var 0) (av_cons (bv_ev ev_int) av_nil)))) ev_int))) (gv_name 1))
      (sv_seq (sv_setO 2 (ov_rep (mv_ov (ov_lst (ae_cons ev_int ae_nil) (by decide))) (bv_var 1)))
      (sv_seq (sv_setO 3 (ov_rep (mv_ov (ov_lst (ae_cons ev_int ae_nil) (by decide))) (bv_var 1)))
      (sv_seq (sv_for (is_enum (ev_ov (ov_sl (lv_var 0) (op_part (bv_ev ev_int)) (op_part (bv_ev ev_int))))) (gv_tup (gs_cons (gv_name 4) (gs_cons (gv_name 5) gs_nil)))
        (sv_seq (sv_putAt 2 (ev_op ro_i0 (bv_ev (ev_op ro_i0 (bv_ev (ev_ixl (lv_var 2) (bv_ev (ev_op ro_i (bv_var 4) (bv_var 1))))) (bv_ev (ev_mdk (k := 9) (by decide) (bv_var 5) ev_int)))) (bv_ev ev_int)) (bv_ev (ev_op ro_i (bv_var 4) (bv_var 1))))
      (sv_putAt 3 (ev_op ro_i0 (bv_ev (ev_ixl (lv_var 3) (bv_ev (ev_op ro_i (bv_var 4) (bv_var 1))))) (bv_ev (ev_mdk (k := 3) (by decide) (bv_ev (ev_dvk (k := 9) (cdiv (by decide +kernel)) (bv_var 5) ev_int)) ev_int))) (bv_ev (ev_op ro_i (bv_var 4) (bv_var 1))))))
      (sv_seq (sv_asg (ev_op ro_i0 (bv_ev ev_int) (bv_ev (ev_mdk (k := 12) (by decide) (bv_ev (ev_call0 (av_cons (bv_var 0) (av_cons (bv_ev ev_int) av_nil)))) ev_int))) (gv_name 6))
      (sv_retO (ov_lc (IvS.e (is_rng1 (av_cons (bv_var 1) av_nil))) (gv_name 0) tv_yes (ev_tup (ae_cons (ev_tup (ae_cons (ev_op ro_i0 (bv_ev (ev_op ro_i (bv_ev ev_int) (bv_var 0))) (bv_ev ev_int)) (ae_cons ev_int ae_nil)) (by decide)) (ae_cons (ev_call0 (av_cons (bv_ev (ev_ixl (lv_var 3) (bv_var 0))) (av_cons (bv_var 1) av_nil))) (ae_cons (ev_ixl (lv_var 2) (bv_var 0)) ae_nil))) (by decide)) (by decide) (by decide)))))))), ?_⟩
  rintro ds Q X ⟨ns, rfl, hlen, hbits, k⟩
  have bg : ∀ j : Int, 0 ≤ j → j ≤ 1000 → Bg 1048577 (cellF ns j) := fun j h0 h1 => cellF_bg hbits h0 h1
  walk_at "s"
  refine ⟨ns, 0, rfl, by decide, by decide, ?_⟩
  walk_at "d"
  obtain ⟨n, hn, n1, n30⟩ : ∃ n : Nat, 1 + cellF ns 0 % 8 = (n : Int) ∧ 1 ≤ n ∧ n ≤ 8 := ⟨(1 + cellF ns 0 % 8).toNat, by omega, by omega, by omega⟩
  rw [hn]
  clear hn
  walk_at "s"
  refine ⟨⟨by omega, by omega⟩, by omega, ?_⟩
  rw [Int.toNat_natCast, rep_int]
  walk_at "s"
  refine ⟨⟨by omega, by omega⟩, by omega, ?_⟩
  rw [Int.toNat_natCast, rep_int]
  have l0 : (0 : Int) < (n : Int) := by omega
  obtain ⟨cs, hcs⟩ : ∃ cs : List Int, cutL ns (some 3) (some 63) = cs := ⟨_, rfl⟩
  have csl : cs.length ≤ 63 := by
    rw [← hcs]; unfold cutL
    rw [List.length_take, List.length_drop]; omega
  refine seq_mk (for_map (fun p : Int × Nat => PyData.tuple [.int (p.2 : Int), .int p.1]) (cs.zipIdx 0) (fun Q h => by
      walk_at "d"
      rw [cutL_map, hcs, enumD_map]; exact h)
    (fun i δ => ∃ (tops wts : List Int) (t1 t2 : Option Sl), δ = [some (.dat (.list (ns.map .int))), some (.dat (.int (n : Int))), some (.own (tops.map .int)), some (.own (wts.map .int)), t1, t2, none] ∧ tops.length = n ∧ wts.length = n ∧ (∀ v ∈ tops, v.natAbs ≤ 5 * i) ∧ ∀ v ∈ wts, 1 ≤ v ∧ v ≤ 1 + 2 * (i : Int))
    ⟨_, _, _, _, rfl, List.length_replicate, List.length_replicate, (fun v hv => by rw [List.eq_of_mem_replicate hv]; decide), fun v hv => by rw [List.eq_of_mem_replicate hv]; decide⟩ ?_ ?_)
  · rintro i p δ hi ⟨tops, wts, t1, t2, rfl, tl, wl, tb, wb⟩
    have hp : p.2 = i := by
      rw [List.getElem?_zipIdx] at hi
      cases e : cs[i]? with
      | none => rw [e] at hi; cases hi
      | some c => rw [e] at hi; simp at hi; rw [← hi]
    obtain ⟨c, pi⟩ := p
    have hp' : pi = i := hp
    subst hp'
    obtain ⟨x, hx, hxn⟩ : ∃ x : Nat, (pi : Int) % (n : Int) = (x : Int) ∧ x < n := by
      have e0 := Int.emod_nonneg (pi : Int) (show (n : Int) ≠ 0 by omega)
      have e1 := Int.emod_lt_of_pos (pi : Int) l0
      exact ⟨((pi : Int) % (n : Int)).toNat, by omega, by omega⟩
    have tbx := tb _ (int_mem (show x < tops.length by omega))
    have wbx := wb _ (int_mem (show x < wts.length by omega))
    walk_at "s"
    refine ⟨l0, ?_⟩
    rw [hx]
    refine ⟨_, atI_it rfl (by omega), ?_⟩
    walk_at "d"
    refine ⟨l0, ?_⟩
    try rw [hx]
    refine ⟨x, ixN_nat' rfl (by omega), ?_⟩
    walk_at "d"
    refine ⟨l0, ?_⟩
    try rw [hx]
    refine ⟨_, atI_it rfl (by omega), ?_⟩
    walk_at "d"
    refine ⟨l0, ?_⟩
    try rw [hx]
    refine ⟨x, ixN_nat' rfl (by omega), tops.set x (tops.getD x 0 + c % 9 - 4), wts.set x (wts.getD x 0 + c / 9 % 3), _, _, by rw [List.map_set, List.map_set], by rw [List.length_set]; exact tl, by rw [List.length_set]; exact wl, set_all (fun v hv => Nat.le_trans (tb v hv) (by omega)) (by omega), set_all (fun v hv => by have := wb v hv; omega) (by omega)⟩
  rintro δ ⟨tops, wts, t1, t2, rfl, tl, wl, tb, wb⟩
  rw [List.length_zipIdx] at tb wb
  have tb2 : ∀ v ∈ tops, v.natAbs ≤ 315 := fun v hv => Nat.le_trans (tb v hv) (by omega)
  have wb2 : ∀ v ∈ wts, 1 ≤ v ∧ v ≤ 200 := fun v hv => by have := wb v hv; omega
  walk_at "s"
  refine ⟨ns, 1, rfl, by decide, by decide, ?_⟩
  walk_at "d"
  obtain ⟨bt, hbt, bt1, bt2⟩ : ∃ bt : Int, 1 + cellF ns 1 % 12 = bt ∧ 1 ≤ bt ∧ bt ≤ 12 := ⟨_, rfl, by omega, by omega⟩
  rw [hbt]
  walk_at "d"
  refine lc_map (fun k : Nat => PyData.int (0 + (k : Int) * 1)) mk3 (fun i : Nat => [(((2 * (0 + (i : Int) * 1) - 9 : Int) : Rat), Rat.divInt (tops.getD i 0) bt, wts.getD i 0)]) (List.range n) (by rw [List.length_range]; omega) (fun Q h => by
      walk_at "d"
      refine ⟨by omega, ?_⟩
      rw [Int.toNat_natCast]; exact h) (fun i hi N acc hN => ?_) ?_
  · have hi2 := List.mem_range.mp hi
    obtain ⟨kk, hk⟩ : ∃ kk : Int, (0 : Int) + (i : Int) * 1 = kk := ⟨_, rfl⟩
    rw [hk] at hN ⊢
    have hk' : kk = (i : Int) := by omega
    have a1 : atI (tops.map PyData.int) kk = some (.int (tops.getD i 0)) := atI_it hk' (by omega)
    have a2 : atI (wts.map PyData.int) kk = some (.int (wts.getD i 0)) := atI_it hk' (by omega)
    walk_at "d"
    refine ⟨mulOk (wee (by decide +kernel)) (weeLe (n := 12) (by omega) (by decide +kernel)), _, a1, _, _, rfl, bt1, weeLe (n := 12) (by omega) (by decide +kernel), ?_⟩
    walk_at "d"
    refine ⟨_, a2, ?_⟩
    exact hN
  rw [flat_single]
  refine k _ bt ⟨by rw [List.length_map, List.length_range]; omega, by rw [List.length_map, List.length_range]; omega, bt1, bt2, fun m h => ?_, fun m h => ?_, fun m h => ?_⟩
  · obtain ⟨i, hi, rfl⟩ := List.mem_map.mp h
    have hi2 := List.mem_range.mp hi
    have tbx := tb2 _ (int_mem (show i < tops.length by omega))
    obtain ⟨b, hb⟩ : ∃ b : Nat, (b : Int) = bt := ⟨bt.toNat, by omega⟩
    show Cm bt.toNat 400 (Rat.divInt (tops.getD i 0) bt)
    rw [← hb, Int.toNat_natCast]
    refine Cm.div (by omega) (Nat.dvd_refl _) ?_
    exact Nat.le_trans (m := 400) (by omega) (Nat.le_mul_of_pos_right _ (by omega))
  · obtain ⟨i, hi, rfl⟩ := List.mem_map.mp h
    have hi2 := List.mem_range.mp hi
    exact wb2 _ (int_mem (by omega))
  · obtain ⟨i, hi, rfl⟩ := List.mem_map.mp h
    have hi2 := List.mem_range.mp hi
    exact ⟨_, rfl, by omega⟩
structure HoldTo (row ps : List Rat) (i : Nat) : Prop where
  up : ∀ j, j + 1 < i → row.getD j 0 ≤ row.getD (j + 1) 0
  hold : ∀ j, j < i → Holds1 row ps j
theorem HoldTo.all {row ps : List Rat} (h : HoldTo row ps row.length) : Rises row ∧ Holds row ps := ⟨h.up, h.hold⟩
noncomputable def wHoldI : DW := fun ds Q _ => ∃ (row ps : List Rat) (L B l b : Nat), ds = [.list (row.map fr), .list (ps.map fr)] ∧ PSz L B l b ps ∧ l + b ≤ 1100 ∧ ps.length = row.length ∧ (∀ q ∈ row, Ok q) ∧ ∀ v : Bool, (v = true ↔ (Rises row ∧ Holds row ps)) → Q (.dat (.bool v))
theorem ok_law_holds (T : Txt K mg A) : FnOk P w K mg base (CXE P w) 3 A.a_law_holds A.d_law_holds ["row", "pulls"] (spW K wHoldI) := by
  have G_law_less := ok_law_less (P := P) (w := w) (base := base) T
  have G_law_sum := ok_law_sum (P := P) (w := w) (base := base) T
  refine okW T.F_law_holds sc_law_holds (fun ds Q E h => ?_) (fun cdv Ar outer s H E hr => ?_)
  · obtain ⟨_, _, _, _, _, _, rfl, _⟩ := h; rfl
  refine ⟨_, (pss_cons (ps_set (i := 2) sc_law_holds.nd rfl (Or.inl rfl) (pe_tup (pa_cons pe_int (pa_cons pe_int pa_nil))))
      (pss_cons (ps_for PassesOwn.leaving rfl (pi_range1 rfl T.n_range (pa_cons (pe_callB (lenK (K := K) rfl) rfl T.n_len PySem.boot_len (pa_cons (pv 0) pa_nil)) pa_nil)) (pg_name (i := 3) sc_law_holds.nd rfl (Or.inl rfl))
        (pss_cons (ps_if (PW.pt (pw_and (pt_cmpR op_gt (pv 3) pe_int (nomark _)) (pw_and1 (pt_val (pe_call G_law_less (hr.mono (by decide)) rfl T.m_law_less T.F_law_less.kp T.b_law_less .nil passE0 (pa_cons (pe_ix (ixlK (K := K) rfl) (pv 0) (pv 3) (fun _ _ => rfl)) (pa_cons (pe_ix (ixlK (K := K) rfl) (pv 0) (pe_op op_sub (pv 3) pe_int) (fun _ _ => rfl)) pa_nil))))))) (pss_one (ps_ret pe_bl)) pss_nil)
      (pss_cons (ps_set (i := 2) sc_law_holds.nd rfl (Or.inl rfl) (pe_call G_law_sum (hr.mono (by decide)) rfl T.m_law_sum T.F_law_sum.kp T.b_law_sum .nil passE0 (pa_cons (pv 2) (pa_cons (pe_ix (ixlK (K := K) rfl) (pv 1) (pv 3) (fun _ _ => rfl)) pa_nil))))
      (pss_cons (ps_if (pt_cmpR op_lt (pe_ix (ixtK (K := K) rfl) (pv 2) pe_int (fun _ _ => rfl)) pe_int (nomark _)) (pss_one (ps_ret pe_bl)) pss_nil)
      (pss_one (ps_if (PW.pt (pw_and (pt_cmpR op_gt (pe_ix (ixtK (K := K) rfl) (pv 2) pe_int (fun _ _ => rfl)) pe_int (nomark _)) (pw_and1 (PW.pt (pw_or (pt_cmpR op_eq (pe_op op_add (pv 3) pe_int) (pe_callB (lenK (K := K) rfl) rfl T.n_len PySem.boot_len (pa_cons (pv 0) pa_nil)) (nomark _)) (pw_or1 (pt_cmpR (neK (K := K) rfl hr.units) (pe_ix (ixlK (K := K) rfl) (pv 0) (pe_op op_add (pv 3) pe_int) (fun _ _ => rfl)) (pe_ix (ixlK (K := K) rfl) (pv 0) (pv 3) (fun _ _ => rfl)) (nomark _)))))))) (pss_one (ps_ret pe_bl)) pss_nil))))))
      (pss_one (ps_ret pe_bl)))), _, (sv_seq (sv_asg (ev_tup (ae_cons ev_int (ae_cons ev_int ae_nil)) (by decide)) (gv_name 2))
      (sv_seq (sv_for (is_rng1 (av_cons (bv_ev (ev_cb rb_len (av_cons (bv_var 0) av_nil))) av_nil)) (gv_name 3)
        (sv_cut (sv_if (tv_and (tv_test (bv_ev (ev_op ro_b0 (bv_var 3) (bv_ev ev_int)))) (tv_b (bv_ev (ev_call0 (av_cons (bv_ev (ev_ixl (lv_var 0) (bv_var 3))) (av_cons (bv_ev (ev_ixl (lv_var 0) (bv_ev (ev_op ro_i0 (bv_var 3) (bv_ev ev_int))))) av_nil)))))) (sv_ret (bv_ev ev_bl)) sv_next)
      (sv_seq (sv_asg (ev_call0 (av_cons (bv_var 2) (av_cons (bv_ev (ev_ixl (lv_var 1) (bv_var 3))) av_nil))) (gv_name 2))
      (sv_seq (sv_if (tv_test (bv_ev (ev_op ro_b0 (bv_ev (ev_ixk 0 (ev_var 2))) (bv_ev ev_int)))) (sv_ret (bv_ev ev_bl)) sv_next)
      (sv_if (tv_and (tv_test (bv_ev (ev_op ro_b0 (bv_ev (ev_ixk 0 (ev_var 2))) (bv_ev ev_int)))) (tv_or (tv_test (bv_ev (ev_op ro_eq (bv_ev (ev_op ro_i0 (bv_var 3) (bv_ev ev_int))) (bv_ev (ev_cb rb_len (av_cons (bv_var 0) av_nil)))))) (tv_test (bv_ev (ev_op ro_neD (bv_ev (ev_ixl (lv_var 0) (bv_ev (ev_op ro_i0 (bv_var 3) (bv_ev ev_int))))) (bv_ev (ev_ixl (lv_var 0) (bv_var 3)))))))) (sv_ret (bv_ev ev_bl)) sv_next)))))
      (sv_ret (bv_ev ev_bl)))), ?_⟩
  rintro ds Q X ⟨row, ps, L, B, l, b, rfl, z, lb, pl, ro, k⟩
  have n60 := z.len
  have fit := z.fit
  have tdg : ∀ i, Dg (b + 2 + l + 1) (tot (ps.take i)) := fun i => by
    have h := Cm.tot (qs := ps.take i) (L := L) (B := B) fun q hq => z.h q (List.mem_of_mem_take hq)
    exact h.dg z.pos z.pL (sixty_ten (by rw [List.length_take]; omega) z.pB)
  have pdg : ∀ p ∈ ps, Dg (b + l + 1) p := fun p hp => (z.h p hp).dg z.pos z.pL z.pB
  have no : ∀ {Q' : Prop}, (Rises row ∧ Holds row ps → False) → Q (.dat (.bool false)) := fun h => k false ⟨fun e => (by cases e), fun e => (h e).elim⟩
  walk_at "s"
  refine seq_mk (for_rng (lo := 0) (st := 1) (n := row.length) (fun Q h => by
      walk_at "d"
      refine ⟨by omega, ?_⟩
      rw [Int.toNat_natCast]; exact h)
    (fun i δ => ∃ o3 : Option PyData, δ = [some (.dat (.list (row.map fr))), some (.dat (.list (ps.map fr))), some (.dat (fr (tot (ps.take i)))), o3.map Sl.dat] ∧ HoldTo row ps i)
    ⟨none, rfl, ⟨(fun j h => absurd h (by omega)), fun j h => absurd h (by omega)⟩⟩ ?_ ?_)
  · rintro i δ hi ⟨o3, rfl, ht⟩
    obtain ⟨kk, hk⟩ : ∃ kk : Int, (0 : Int) + (i : Int) * 1 = kk := ⟨_, rfl⟩
    rw [hk]
    have hk' : kk = (i : Int) := by omega
    have hpi : ps[i]? = some (ps.getD i 0) := by rw [getD_of (by omega)]; exact List.getElem?_eq_getElem (by omega)
    have mem : ∀ {qs : List Rat} {j : Nat}, j < qs.length → qs.getD j 0 ∈ qs := fun {qs j} h => by rw [getD_of h]; exact List.getElem_mem h
    walk_at "d"
    refine cut_mk (fun δ => δ = [some (.dat (.list (row.map fr))), some (.dat (.list (ps.map fr))), some (.dat (fr (tot (ps.take i)))), some (.dat (.int kk))] ∧ (0 < i → row.getD (i - 1) 0 ≤ row.getD i 0)) ?_ ?_
    · walk_at "d"
      refine ite2 (fun c => ?_) (fun c => fun h => absurd h (by omega))
      refine ⟨_, atI_rat hk' hi, _, atI_rat (j := i - 1) (by omega) (by omega), _, _, rfl, ro _ (mem hi), ro _ (mem (by omega)), ?_⟩
      walk_at "d"
      refine ite2 (fun c' => no (Q' := True) fun h => ?_) (fun c' => fun _ => Rat.not_lt.mp c')
      have := h.1 (i - 1) (by omega)
      rw [show i - 1 + 1 = i by omega] at this
      exact absurd c' (Rat.not_lt.mpr this)
    rintro δ ⟨rfl, h1⟩
    walk_at "s"
    refine ⟨_, atI_rat hk' (by omega), ?_⟩
    refine sum_fr (tdg i) (pdg _ (mem (by omega))) (by omega) ?_
    rw [← tot_snoc, ← take_snoc hpi]
    obtain ⟨t, ht0⟩ : ∃ t, tot (ps.take (i + 1)) = t := ⟨_, rfl⟩
    rw [ht0]
    walk_at "s"
    refine ite2 (fun c => no (Q' := True) fun h => ?_) (fun c => ?_)
    · have := (h.2 i hi).1
      rw [ht0] at this
      exact absurd ((num_neg_iff t).mp c) (Rat.not_lt.mpr this)
    have t0 : 0 ≤ t := Rat.not_lt.mp fun z => c ((num_neg_iff t).mpr z)
    have fin : (endAt row i → t = 0) → HoldTo row ps (i + 1) := fun he => ⟨fun j hj => by
        rcases Nat.lt_or_ge (j + 1) i with c | c
        · exact ht.up j c
        · have e : j = i - 1 := by omega
          have := h1 (by omega)
          rw [e, show i - 1 + 1 = i by omega]; exact this, fun j hj => by
        rcases Nat.lt_or_ge j i with c | c
        · exact ht.hold j c
        · have e : j = i := by omega
          subst e
          unfold Holds1
          rw [ht0]
          exact ⟨t0, he⟩⟩
    have bad : endAt row i → 0 < t.num → Q (.dat (.bool false)) := fun he tp => no (Q' := True) fun h => by
      have := (h.2 i hi).2 he
      rw [ht0] at this
      rw [this] at tp
      exact absurd tp (by decide)
    walk_at "d"
    refine ite2 (fun c1 => ?_) (fun c1 => ⟨some _, rfl, fin fun _ => Rat.le_antisymm (Rat.not_lt.mp fun z => c1 ((num_pos_iff t).mpr z)) t0⟩)
    refine ite2 (fun c2 => bad (.inl (by omega)) c1) (fun c2 => ?_)
    refine ⟨_, atI_rat (j := i + 1) (by omega) (by omega), _, atI_rat hk' hi, Rat, eRat, row.getD (i + 1) 0, row.getD i 0, rfl, rfl, fun v hv => ?_⟩
    by_cases e : row.getD (i + 1) 0 = row.getD i 0
    · rw [hv.mpr e]
      walk_at "d"
      refine ⟨some _, rfl, fin fun he => ?_⟩
      rcases he with he | he
      · exact absurd he (by omega)
      · exact absurd e he
    · have : v = false := by
        cases v with
        | false => rfl
        | true => exact absurd (hv.mp rfl) e
      rw [this]
      walk_at "d"
      exact bad (.inr e) c1
  rintro δ ⟨o3, rfl, ht⟩
  walk_at "d"
  exact k true ⟨fun _ => ht.all, fun _ => rfl⟩
end
theorem maxR_snoc {xs : List Rat} {x : Rat} (h0 : 0 ≤ x) : maxR (xs ++ [x]) = if maxR xs < x then x else maxR xs := by
  have nn := maxR_nn xs
  refine (maxR_eq (by split; exact h0; exact nn) ?_ fun q hq => ?_).symm
  · split
    · exact .inr (by simp)
    · rcases @maxR_mem xs with h | h
      · exact .inl h
      · exact .inr (List.mem_append_left _ h)
  · rcases List.mem_append.mp hq with h | h
    · have := maxR_le q h
      split
      · grind
      · exact this
    · rw [List.mem_singleton.mp h]
      split
      · exact Rat.le_refl
      · exact Rat.not_lt.mp ‹_›
theorem absR_nn (q : Rat) : 0 ≤ absR q := Rat.num_nonneg.mp (show (0 : Int) ≤ ((q.num.natAbs : Nat) : Int) by omega)
theorem absR_zero {q : Rat} (h : absR q = 0) : q = 0 := by
  rcases Rat.le_total (a := 0) (b := q) with c | c
  · rw [absR_pos c] at h; exact h
  · rw [absR_neg c] at h; grind
theorem tot_abs_zero : ∀ {ps : List Rat}, tot (ps.map absR) = 0 → ∀ p ∈ ps, p = 0
  | [], _, _, h => by cases h
  | q :: ps, e, p, h => by
    have n1 := absR_nn q
    have n2 : 0 ≤ tot (ps.map absR) := by
      clear e h
      induction ps with
      | nil => exact Rat.le_refl
      | cons a as ih =>
        have := absR_nn a
        rw [List.map_cons, tot]
        grind
    rw [List.map_cons, tot] at e
    have e1 : absR q = 0 := by grind
    have e2 : tot (ps.map absR) = 0 := by grind
    rcases List.mem_cons.mp h with rfl | h
    · exact absR_zero e1
    · exact tot_abs_zero e2 p h
theorem tot_abs_all : ∀ {ps : List Rat}, (∀ p ∈ ps, p = 0) → tot (ps.map absR) = 0
  | [], _ => rfl
  | q :: ps, h => by
    rw [List.map_cons, tot, tot_abs_all fun p hp => h p (List.mem_cons_of_mem _ hp), h q List.mem_cons_self, absR_pos Rat.le_refl, Rat.add_zero]
theorem maxR_zero {xs : List Rat} (h : maxR (xs.map absR) = 0) : ∀ x ∈ xs, x = 0 := fun x hx => by
  have := maxR_le (xs := xs.map absR) _ (List.mem_map.mpr ⟨x, hx, rfl⟩)
  have := absR_nn x
  exact absR_zero (by grind)
theorem maxR_all {xs : List Rat} (h : ∀ x ∈ xs, x = 0) : maxR (xs.map absR) = 0 := by
  rcases @maxR_mem (xs.map absR) with e | e
  · exact e
  · obtain ⟨x, hx, e2⟩ := List.mem_map.mp e
    rw [← e2, h x hx, absR_pos Rat.le_refl]
noncomputable def FairAt (kd : Str) (M : Rat) (w x p : Rat) : Prop := if kd = "far" then FarAt M (x, p) else if kd = "sum" then SumAt w x p else p = w * x
noncomputable def FairX (kd : Str) (ms : List Mk) (xs ps : List Rat) : Prop := if kd = "far" then FairFar xs ps else if kd = "sum" then FairSum ms xs ps else ps = List.zipWith (fun (m : Mk) x => (m.2.2 : Rat) * x) ms xs
structure FairTo (kd : Str) (ms : List Mk) (xs ps : List Rat) (i : Nat) : Prop where
  h : ∀ j, j < i → FairAt kd (maxR (xs.map absR)) ((ms.getD j default).2.2 : Rat) (xs.getD j 0) (ps.getD j 0)
theorem FairTo.step {kd : Str} {ms : List Mk} {xs ps : List Rat} {i : Nat} (h : FairTo kd ms xs ps i) (e : FairAt kd (maxR (xs.map absR)) ((ms.getD i default).2.2 : Rat) (xs.getD i 0) (ps.getD i 0)) : FairTo kd ms xs ps (i + 1) :=
  ⟨fun j hj => by
    rcases Nat.lt_or_ge j i with c | c
    · exact h.h j c
    · have : j = i := by omega
      subst this; exact e⟩
theorem fairX_iff {kd : Str} {ms : List Mk} {xs ps : List Rat} (lx : xs.length = ms.length) (lp : ps.length = ms.length) :
    FairX kd ms xs ps ↔ (∀ j, j < ms.length → FairAt kd (maxR (xs.map absR)) ((ms.getD j default).2.2 : Rat) (xs.getD j 0) (ps.getD j 0)) ∧ (kd = "far" → tot (ps.map absR) = 1 ∨ (tot (ps.map absR) = 0 ∧ maxR (xs.map absR) = 0)) := by
  unfold FairX FairAt
  by_cases c : kd = "far"
  · simp only [if_pos c]
    unfold FairFar
    have zi : (∀ z ∈ xs.zip ps, FarAt (maxR (xs.map absR)) z) ↔ ∀ j, j < ms.length → FarAt (maxR (xs.map absR)) (xs.getD j 0, ps.getD j 0) := by
      constructor
      · intro h j hj
        refine h _ ?_
        rw [getD_of (by omega), getD_of (by omega)]
        have e : (xs.zip ps)[j]'(by rw [List.length_zip]; omega) = (xs[j]'(by omega), ps[j]'(by omega)) := List.getElem_zip
        rw [← e]; exact List.getElem_mem _
      · intro h z hz
        obtain ⟨j, hj, rfl⟩ := List.getElem_of_mem hz
        rw [List.length_zip] at hj
        have := h j (by omega)
        rw [getD_of (by omega), getD_of (by omega)] at this
        rw [List.getElem_zip]; exact this
    rw [zi]
    constructor
    · rintro (⟨h1, h2⟩ | ⟨h1, h2, h3⟩)
      · refine ⟨fun j hj hn => absurd (h1 _ ?_) hn, fun _ => .inr ⟨tot_abs_all h1, maxR_all h2⟩⟩
        show ps.getD j 0 ∈ ps
        rw [getD_of (by omega)]; exact List.getElem_mem _
      · exact ⟨h2, fun _ => .inl h3⟩
    · rintro ⟨h1, h2⟩
      rcases h2 c with e | ⟨e1, e2⟩
      · refine .inr ⟨fun z => ?_, h1, e⟩
        rw [tot_abs_all z] at e
        exact absurd e (by decide)
      · exact .inl ⟨tot_abs_zero e1, maxR_zero e2⟩
  · simp only [if_neg c]
    have far : (kd = "far" → tot (ps.map absR) = 1 ∨ (tot (ps.map absR) = 0 ∧ maxR (xs.map absR) = 0)) ↔ True := ⟨fun _ => trivial, fun _ h => absurd h c⟩
    rw [far, and_true]
    by_cases d : kd = "sum"
    · simp only [if_pos d]
      unfold FairSum
      constructor
      · intro h j hj
        have e : (ms.zip (xs.zip ps))[j]'(by rw [List.length_zip, List.length_zip]; omega) = (ms[j], (xs[j]'(by omega), ps[j]'(by omega))) := by rw [List.getElem_zip, List.getElem_zip]
        have := h _ (List.getElem_mem (show j < (ms.zip (xs.zip ps)).length by rw [List.length_zip, List.length_zip]; omega))
        rw [e] at this
        rw [getD_of (by omega), getD_of (by omega), getD_of (by omega)]
        exact this
      · intro h z hz
        obtain ⟨j, hj, rfl⟩ := List.getElem_of_mem hz
        rw [List.length_zip, List.length_zip] at hj
        have := h j (by omega)
        rw [getD_of (by omega), getD_of (by omega), getD_of (by omega)] at this
        rw [List.getElem_zip, List.getElem_zip]; exact this
    · simp only [if_neg d]
      constructor
      · intro h j hj
        have e : ps[j]'(by omega) = (List.zipWith (fun (m : Mk) x => (m.2.2 : Rat) * x) ms xs)[j]'(by rw [List.length_zipWith]; omega) := by simp only [← h]
        rw [getD_of (by omega), getD_of (by omega), getD_of (by omega), e, List.getElem_zipWith]
      · intro h
        refine List.ext_getElem (by rw [List.length_zipWith]; omega) fun j h1 h2 => ?_
        have := h j (by omega)
        rw [getD_of (by omega), getD_of (by omega), getD_of (by omega)] at this
        rw [this, List.getElem_zipWith]
theorem abs_fr (q : Rat) : PyData.tuple [.int (if q.num < 0 then -q.num else q.num), .int (q.den : Int)] = fr (absR q) := by
  have e : (if q.num < 0 then -q.num else q.num) = ((q.num.natAbs : Nat) : Int) := by split <;> omega
  rw [e]; rfl
theorem ilt_abs (w : Int) (p : Rat) : w * (p.den : Int) < (if p.num < 0 then -p.num else p.num) ↔ (w : Rat) < absR p := by
  have e : (if p.num < 0 then -p.num else p.num) = (absR p).num := by
    show _ = ((p.num.natAbs : Nat) : Int)
    split <;> omega
  rw [e, Rat.lt_iff]
  show w * (p.den : Int) < (absR p).num ↔ w * (p.den : Int) < (absR p).num * ((1 : Nat) : Int)
  rw [show ((1 : Nat) : Int) = 1 from rfl, Int.mul_one]
theorem abs_lti (w : Int) (p : Rat) : (if p.num < 0 then -p.num else p.num) < w * (p.den : Int) ↔ absR p < (w : Rat) := by
  have e : (if p.num < 0 then -p.num else p.num) = (absR p).num := by
    show _ = ((p.num.natAbs : Nat) : Int)
    split <;> omega
  rw [e, Rat.lt_iff]
  show (absR p).num < w * (p.den : Int) ↔ (absR p).num * ((1 : Nat) : Int) < w * (p.den : Int)
  rw [show ((1 : Nat) : Int) = 1 from rfl, Int.mul_one]
theorem abs_eqi (w : Int) (p : Rat) : (if p.num < 0 then -p.num else p.num) = w * (p.den : Int) ↔ absR p = (w : Rat) := by
  have h1 := ilt_abs w p
  have h2 := abs_lti w p
  constructor
  · intro e
    exact Rat.le_antisymm (Rat.not_lt.mp fun z => by have := h1.mpr z; omega) (Rat.not_lt.mp fun z => by have := h2.mpr z; omega)
  · intro e
    have a1 : ¬ (w : Rat) < absR p := by rw [e]; exact Rat.lt_irrefl
    have a2 : ¬ absR p < (w : Rat) := by rw [e]; exact Rat.lt_irrefl
    have b1 := fun z => a1 (h1.mp z)
    have b2 := fun z => a2 (h2.mp z)
    generalize (if p.num < 0 then -p.num else p.num) = A at b1 b2 ⊢
    exact Int.le_antisymm (Int.not_lt.mp b1) (Int.not_lt.mp b2)
theorem num_mul_neg (x p : Rat) : x.num * p.num < 0 ↔ x * p < 0 := by
  have h := num_mul_pos x (-p)
  have e : x.num * (-p).num = -(x.num * p.num) := by show x.num * -p.num = _; rw [Int.mul_neg]
  have e2 : x * -p = -(x * p) := by grind
  rw [e, e2] at h
  constructor
  · intro z; have := h.mp (by omega); grind
  · intro z; have := h.mpr (by grind); omega
theorem sumAt_iff {w : Int} (hw : 1 ≤ w) (x p : Rat) : SumAt (w : Rat) x p ↔ (absR p ≤ (w : Rat) ∧ ¬ x * p < 0) ∧ (x ≠ 0 → absR p = (w : Rat)) := by
  have w0 : (0 : Rat) < (w : Rat) := Rat.intCast_pos.mpr (by omega)
  unfold SumAt
  constructor
  · rintro ⟨h1, h2, h3⟩
    refine ⟨⟨h1, fun z => ?_⟩, fun hx => ?_⟩
    · rcases Rat.le_total (a := 0) (b := x) with c | c
      · by_cases e : x = 0
        · rw [e, Rat.zero_mul] at z; exact absurd z (by decide)
        · have := h2 (by grind)
          rw [this] at z
          have := Rat.mul_nonneg c (Rat.le_of_lt w0)
          grind
      · by_cases e : x = 0
        · rw [e, Rat.zero_mul] at z; exact absurd z (by decide)
        · have := h3 (by grind)
          rw [this] at z
          have := Rat.mul_nonneg (show 0 ≤ -x by grind) (Rat.le_of_lt w0)
          grind
    · rcases Rat.le_total (a := 0) (b := x) with c | c
      · rw [h2 (by grind), absR_pos (Rat.le_of_lt w0)]
      · rw [h3 (by grind), absR_neg (by grind)]; grind
  · rintro ⟨⟨h1, h2⟩, h3⟩
    refine ⟨h1, fun c => ?_, fun c => ?_⟩
    · have e := h3 (by grind)
      rcases Rat.le_total (a := 0) (b := p) with d | d
      · rw [absR_pos d] at e; exact e
      · rw [absR_neg d] at e
        have : x * p < 0 := by
          have := Rat.mul_pos c (show 0 < -p by grind)
          grind
        exact absurd this h2
    · have e := h3 (by grind)
      rcases Rat.le_total (a := 0) (b := p) with d | d
      · rw [absR_pos d] at e
        have : x * p < 0 := by
          have := Rat.mul_pos (show 0 < -x by grind) (show 0 < p by grind)
          grind
        exact absurd this h2
      · rw [absR_neg d] at e; grind
section
variable {P : Program} {w : World} {K : PySem.W.Frag} {mg : Str → Option Value} {base : Heap} {A : Adr}
noncomputable def wFairI : DW := fun ds Q _ => ∃ (kd : Str) (ms : List Mk) (xs ps : List Rat) (L B l b L2 B2 l2 b2 : Nat), ds = [.str kd, .list (ms.map mk3), .list (xs.map fr), .list (ps.map fr)] ∧ kd ∈ kdsL ∧ PSz L B l b ps ∧ l + b ≤ 1100 ∧ PSz L2 B2 l2 b2 xs ∧ l2 + b2 ≤ 1100 ∧ xs.length = ms.length ∧ ps.length = ms.length ∧ (∀ m ∈ ms, 1 ≤ m.2.2 ∧ m.2.2 ≤ 200) ∧ ∀ v : Bool, (v = true ↔ FairX kd ms xs ps) → Q (.dat (.bool v))
theorem ok_law_fair (T : Txt K mg A) : FnOk P w K mg base (CXE P w) 3 A.a_law_fair A.d_law_fair ["kind", "marks", "misses", "pulls"] (spW K wFairI) := by
  have G_law_less := ok_law_less (P := P) (w := w) (base := base) T
  have G_law_sum := ok_law_sum (P := P) (w := w) (base := base) T
  have G_law_low := ok_law_low (P := P) (w := w) (base := base) T
  refine okW T.F_law_fair sc_law_fair (fun ds Q E h => ?_) (fun cdv Ar outer s H E hr => ?_)
  · obtain ⟨_, _, _, _, _, _, _, _, _, _, _, _, rfl, _⟩ := h; rfl
  refine ⟨_, (pss_cons (ps_set (i := 4) sc_law_fair.nd rfl (Or.inl rfl) (pe_tup (pa_cons pe_int (pa_cons pe_int pa_nil))))
      (pss_cons (ps_set (i := 5) sc_law_fair.nd rfl (Or.inl rfl) (pe_tup (pa_cons pe_int (pa_cons pe_int pa_nil))))
      (pss_cons (ps_for PassesOwn.leaving rfl (pi_range1 rfl T.n_range (pa_cons (pe_callB (lenK (K := K) rfl) rfl T.n_len PySem.boot_len (pa_cons (pv 2) pa_nil)) pa_nil)) (pg_name (i := 6) sc_law_fair.nd rfl (Or.inl rfl))
        (pss_cons (ps_set (i := 7) sc_law_fair.nd rfl (Or.inl rfl) (pe_tup (pa_cons (pe_callB call_abs rfl T.n_abs bt_abs (pa_cons (pe_ix (ixtK (K := K) rfl) (pe_ix (ixlK (K := K) rfl) (pv 2) (pv 6) (fun _ _ => rfl)) pe_int (fun _ _ => rfl)) pa_nil)) (pa_cons (pe_ix (ixtK (K := K) rfl) (pe_ix (ixlK (K := K) rfl) (pv 2) (pv 6) (fun _ _ => rfl)) pe_int (fun _ _ => rfl)) pa_nil))))
      (pss_cons (ps_if (pt_val (pe_call G_law_less (hr.mono (by decide)) rfl T.m_law_less T.F_law_less.kp T.b_law_less .nil passE0 (pa_cons (pv 4) (pa_cons (pv 7) pa_nil)))) (pss_one (ps_set (i := 4) sc_law_fair.nd rfl (Or.inl rfl) (pv 7))) pss_nil)
      (pss_one (ps_set (i := 5) sc_law_fair.nd rfl (Or.inl rfl) (pe_call G_law_sum (hr.mono (by decide)) rfl T.m_law_sum T.F_law_sum.kp T.b_law_sum .nil passE0 (pa_cons (pv 5) (pa_cons (pe_tup (pa_cons (pe_callB call_abs rfl T.n_abs bt_abs (pa_cons (pe_ix (ixtK (K := K) rfl) (pe_ix (ixlK (K := K) rfl) (pv 3) (pv 6) (fun _ _ => rfl)) pe_int (fun _ _ => rfl)) pa_nil)) (pa_cons (pe_ix (ixtK (K := K) rfl) (pe_ix (ixlK (K := K) rfl) (pv 3) (pv 6) (fun _ _ => rfl)) pe_int (fun _ _ => rfl)) pa_nil))) pa_nil))))))))
      (pss_cons (ps_for PassesOwn.leaving rfl (pi_range1 rfl T.n_range (pa_cons (pe_callB (lenK (K := K) rfl) rfl T.n_len PySem.boot_len (pa_cons (pv 2) pa_nil)) pa_nil)) (pg_name (i := 6) sc_law_fair.nd rfl (Or.inl rfl))
        (pss_cons (ps_set (i := 7) sc_law_fair.nd rfl (Or.inl rfl) (pe_tup (pa_cons (pe_callB call_abs rfl T.n_abs bt_abs (pa_cons (pe_ix (ixtK (K := K) rfl) (pe_ix (ixlK (K := K) rfl) (pv 2) (pv 6) (fun _ _ => rfl)) pe_int (fun _ _ => rfl)) pa_nil)) (pa_cons (pe_ix (ixtK (K := K) rfl) (pe_ix (ixlK (K := K) rfl) (pv 2) (pv 6) (fun _ _ => rfl)) pe_int (fun _ _ => rfl)) pa_nil))))
      (pss_cons (ps_set (i := 8) sc_law_fair.nd rfl (Or.inl rfl) (pe_ix (ixtK (K := K) rfl) (pe_ix (ixlK (K := K) rfl) (pv 1) (pv 6) (fun _ _ => rfl)) pe_int (fun _ _ => rfl)))
      (pss_cons (ps_asg (pe_ix (ixlK (K := K) rfl) (pv 3) (pv 6) (fun _ _ => rfl)) (pgtK (K := K) (n := 2) rfl rfl (pgs_cons (pg_name (i := 9) sc_law_fair.nd rfl (Or.inl rfl)) (pgs_cons (pg_name (i := 10) sc_law_fair.nd rfl (Or.inl rfl)) pgs_nil))))
      (pss_cons (ps_if (PW.pt (pw_and (pt_cmpR op_eq (pv 0) pe_str (nomark _)) (pw_and1 (pt_cmpR (neK (K := K) rfl hr.units) (pe_ix (ixlK (K := K) rfl) (pv 3) (pv 6) (fun _ _ => rfl)) (pe_call G_law_low (hr.mono (by decide)) rfl T.m_law_low T.F_law_low.kp T.b_law_low .nil passE0 (pa_cons (pe_op op_mulB (pv 8) (pe_ix (ixtK (K := K) rfl) (pe_ix (ixlK (K := K) rfl) (pv 2) (pv 6) (fun _ _ => rfl)) pe_int (fun _ _ => rfl))) (pa_cons (pe_ix (ixtK (K := K) rfl) (pe_ix (ixlK (K := K) rfl) (pv 2) (pv 6) (fun _ _ => rfl)) pe_int (fun _ _ => rfl)) pa_nil))) (nomark _))))) (pss_one (ps_ret pe_bl)) pss_nil)
      (pss_cons (ps_if (PW.pt (pw_and (pt_cmpR op_eq (pv 0) pe_str (nomark _)) (pw_and1 (PW.pt (pw_or (pt_cmpR op_gt (pe_callB call_abs rfl T.n_abs bt_abs (pa_cons (pv 9) pa_nil)) (pe_op op_mulB (pv 8) (pv 10)) (nomark _)) (pw_or1 (pt_cmpR op_lt (pe_op op_mulB (pe_ix (ixtK (K := K) rfl) (pe_ix (ixlK (K := K) rfl) (pv 2) (pv 6) (fun _ _ => rfl)) pe_int (fun _ _ => rfl)) (pv 9)) pe_int (nomark _)))))))) (pss_one (ps_ret pe_bl)) pss_nil)
      (pss_cons (ps_if (PW.pt (pw_and (pt_cmpR op_eq (pv 0) pe_str (nomark _)) (pw_and (pt_cmpR op_ne (pe_ix (ixtK (K := K) rfl) (pe_ix (ixlK (K := K) rfl) (pv 2) (pv 6) (fun _ _ => rfl)) pe_int (fun _ _ => rfl)) pe_int (nomark _)) (pw_and1 (pt_cmpR op_ne (pe_callB call_abs rfl T.n_abs bt_abs (pa_cons (pv 9) pa_nil)) (pe_op op_mulB (pv 8) (pv 10)) (nomark _)))))) (pss_one (ps_ret pe_bl)) pss_nil)
      (pss_one (ps_if (PW.pt (pw_and (pt_cmpR op_eq (pv 0) pe_str (nomark _)) (pw_and (pt_cmpR op_ne (pv 9) pe_int (nomark _)) (pw_and1 (PW.pt (pw_or (pt_cmpR op_le (pe_op op_mulB (pe_ix (ixtK (K := K) rfl) (pe_ix (ixlK (K := K) rfl) (pv 2) (pv 6) (fun _ _ => rfl)) pe_int (fun _ _ => rfl)) (pv 9)) pe_int (nomark _)) (pw_or1 (pt_cmpR (neK (K := K) rfl hr.units) (pv 7) (pv 4) (nomark _))))))))) (pss_one (ps_ret pe_bl)) pss_nil)))))))))
      (pss_one (ps_ret (pe_or (pe_cmpR op_ne (pv 0) pe_str (nomark _)) (pe_or (pe_cmpR (eqK (K := K) rfl hr.units) (pv 5) (pe_tup (pa_cons pe_int (pa_cons pe_int pa_nil))) (nomark _)) (pe_one (pe_and (pe_cmpR (eqK (K := K) rfl hr.units) (pv 5) (pe_tup (pa_cons pe_int (pa_cons pe_int pa_nil))) (nomark _)) (pe_one (pe_cmpR (eqK (K := K) rfl hr.units) (pv 4) (pe_tup (pa_cons pe_int (pa_cons pe_int pa_nil))) (nomark _))))))))))))), _, (sv_seq (sv_asg (ev_tup (ae_cons ev_int (ae_cons ev_int ae_nil)) (by decide)) (gv_name 4))
      (sv_seq (sv_asg (ev_tup (ae_cons ev_int (ae_cons ev_int ae_nil)) (by decide)) (gv_name 5))
      (sv_seq (sv_for (is_rng1 (av_cons (bv_ev (ev_cb rb_len (av_cons (bv_var 2) av_nil))) av_nil)) (gv_name 6)
        (sv_seq (sv_asg (ev_tup (ae_cons (ev_cb rb_abs (av_cons (bv_ev (ev_ixk 0 (ev_ixl (lv_var 2) (bv_var 6)))) av_nil)) (ae_cons (ev_ixk 1 (ev_ixl (lv_var 2) (bv_var 6))) ae_nil)) (by decide)) (gv_name 7))
      (sv_cut (sv_if (tv_b (bv_ev (ev_call0 (av_cons (bv_var 4) (av_cons (bv_var 7) av_nil))))) (sv_asg (ev_var 7) (gv_name 4)) sv_next)
      (sv_asg (ev_call0 (av_cons (bv_var 5) (av_cons (bv_ev (ev_tup (ae_cons (ev_cb rb_abs (av_cons (bv_ev (ev_ixk 0 (ev_ixl (lv_var 3) (bv_var 6)))) av_nil)) (ae_cons (ev_ixk 1 (ev_ixl (lv_var 3) (bv_var 6))) ae_nil)) (by decide))) av_nil))) (gv_name 5)))))
      (sv_seq (sv_for (is_rng1 (av_cons (bv_ev (ev_cb rb_len (av_cons (bv_var 2) av_nil))) av_nil)) (gv_name 6)
        (sv_seq (sv_asg (ev_tup (ae_cons (ev_cb rb_abs (av_cons (bv_ev (ev_ixk 0 (ev_ixl (lv_var 2) (bv_var 6)))) av_nil)) (ae_cons (ev_ixk 1 (ev_ixl (lv_var 2) (bv_var 6))) ae_nil)) (by decide)) (gv_name 7))
      (sv_seq (sv_asg (ev_ixk 2 (ev_ixl (lv_var 1) (bv_var 6))) (gv_name 8))
      (sv_seq (sv_asg (ev_ixl (lv_var 3) (bv_var 6)) (gv_tup (gs_cons (gv_name 9) (gs_cons (gv_name 10) gs_nil))))
      (sv_cut (sv_if (tv_and (tv_test (bv_ev (ev_op ro_eq (bv_var 0) (bv_ev ev_str)))) (tv_test (bv_ev (ev_op ro_neD (bv_ev (ev_ixl (lv_var 3) (bv_var 6))) (bv_ev (ev_call0 (av_cons (bv_ev (ev_op ro_i (bv_var 8) (bv_ev (ev_ixk 0 (ev_ixl (lv_var 2) (bv_var 6)))))) (av_cons (bv_ev (ev_ixk 1 (ev_ixl (lv_var 2) (bv_var 6)))) av_nil)))))))) (sv_ret (bv_ev ev_bl)) sv_next)
      (sv_cut (sv_if (tv_and (tv_test (bv_ev (ev_op ro_eq (bv_var 0) (bv_ev ev_str)))) (tv_or (tv_test (bv_ev (ev_op ro_b0 (bv_ev (ev_cb rb_abs (av_cons (bv_var 9) av_nil))) (bv_ev (ev_op ro_i (bv_var 8) (bv_var 10)))))) (tv_test (bv_ev (ev_op ro_b0 (bv_ev (ev_op ro_i (bv_ev (ev_ixk 0 (ev_ixl (lv_var 2) (bv_var 6)))) (bv_var 9))) (bv_ev ev_int)))))) (sv_ret (bv_ev ev_bl)) sv_next)
      (sv_cut (sv_if (tv_and (tv_test (bv_ev (ev_op ro_eq (bv_var 0) (bv_ev ev_str)))) (tv_and (tv_test (bv_ev (ev_op ro_ne (bv_ev (ev_ixk 0 (ev_ixl (lv_var 2) (bv_var 6)))) (bv_ev ev_int)))) (tv_test (bv_ev (ev_op ro_ne (bv_ev (ev_cb rb_abs (av_cons (bv_var 9) av_nil))) (bv_ev (ev_op ro_i (bv_var 8) (bv_var 10)))))))) (sv_ret (bv_ev ev_bl)) sv_next)
      (sv_if (tv_and (tv_test (bv_ev (ev_op ro_eq (bv_var 0) (bv_ev ev_str)))) (tv_and (tv_test (bv_ev (ev_op ro_ne (bv_var 9) (bv_ev ev_int)))) (tv_or (tv_test (bv_ev (ev_op ro_b0 (bv_ev (ev_op ro_i (bv_ev (ev_ixk 0 (ev_ixl (lv_var 2) (bv_var 6)))) (bv_var 9))) (bv_ev ev_int)))) (tv_test (bv_ev (ev_op ro_neD (bv_var 7) (bv_var 4))))))) (sv_ret (bv_ev ev_bl)) sv_next))))))))
      (sv_ret (bv_ev (ev_or (bv_ev (ev_op ro_ne (bv_var 0) (bv_ev ev_str))) (ev_or (bv_ev (ev_op ro_eqD (bv_var 5) (bv_ev (ev_tup (ae_cons ev_int (ae_cons ev_int ae_nil)) (by decide))))) (ev_and (bv_ev (ev_op ro_eqD (bv_var 5) (bv_ev (ev_tup (ae_cons ev_int (ae_cons ev_int ae_nil)) (by decide))))) (ev_op ro_eqD (bv_var 4) (bv_ev (ev_tup (ae_cons ev_int (ae_cons ev_int ae_nil)) (by decide))))))))))))), ?_⟩
  rintro ds Q X ⟨kd, ms, xs, ps, L, B, l, b, L2, B2, l2, b2, rfl, hkd, zp, lb, zx, lb2, lx, lp, hw, k⟩
  have n60 := zp.len
  have tdg : ∀ i, Dg (b + 2 + l + 1) (tot ((ps.map absR).take i)) := fun i => by
    have h := Cm.tot (qs := (ps.map absR).take i) (L := L) (B := B) fun q hq => by
      obtain ⟨p, hp, rfl⟩ := List.mem_map.mp (List.mem_of_mem_take hq)
      exact (zp.h p hp).abs
    exact h.dg zp.pos zp.pL (sixty_ten (by rw [List.length_take, List.length_map]; omega) zp.pB)
  have pdg : ∀ p ∈ ps, Dg (b + l + 1) p := fun p hp => (zp.h p hp).dg zp.pos zp.pL zp.pB
  have xdg : ∀ x ∈ xs, Dg (b2 + l2 + 1) x := fun p hp => (zx.h p hp).dg zx.pos zx.pL zx.pB
  have mem : ∀ {qs : List Rat} {j : Nat}, j < qs.length → qs.getD j 0 ∈ qs := fun {qs j} h => by rw [getD_of h]; exact List.getElem_mem h
  have mxo : ∀ i, Ok (maxR ((xs.map absR).take i)) := fun i => by
    rcases @maxR_mem ((xs.map absR).take i) with h | h
    · rw [h]; exact ok0
    · obtain ⟨x, hx, e⟩ := List.mem_map.mp (List.mem_of_mem_take h)
      rw [← e]; exact dgOk (xdg x hx).abs (by omega)
  have iff := fairX_iff (kd := kd) lx lp
  walk_at "s"
  walk_at "s"
  refine seq_mk (for_rng (lo := 0) (st := 1) (n := ms.length) (fun Q h => by
      walk_at "d"
      refine ⟨by omega, ?_⟩
      rw [lx, Int.toNat_natCast]; exact h)
    (fun i δ => ∃ o6 o7 : Option PyData, δ = [some (.dat (.str kd)), some (.dat (.list (ms.map mk3))), some (.dat (.list (xs.map fr))), some (.dat (.list (ps.map fr))), some (.dat (fr (maxR ((xs.map absR).take i)))), some (.dat (fr (tot ((ps.map absR).take i)))), o6.map Sl.dat, o7.map Sl.dat, none, none, none])
    ⟨none, none, rfl⟩ ?_ ?_)
  · rintro i δ hi ⟨o6, o7, rfl⟩
    obtain ⟨kk, hk⟩ : ∃ kk : Int, (0 : Int) + (i : Int) * 1 = kk := ⟨_, rfl⟩
    rw [hk]
    have hk' : kk = (i : Int) := by omega
    have ax : (xs.map absR)[i]? = some (absR (xs.getD i 0)) := by rw [List.getElem?_map, getD_of (by omega), List.getElem?_eq_getElem (by omega)]; rfl
    have ap : (ps.map absR)[i]? = some (absR (ps.getD i 0)) := by rw [List.getElem?_map, getD_of (by omega), List.getElem?_eq_getElem (by omega)]; rfl
    walk_at "s"
    refine ⟨_, atI_rat hk' (by omega), _, atI_rat hk' (by omega), ?_⟩
    walk_at "d"
    rw [abs_fr]
    refine cut_mk (fun δ => δ = [some (.dat (.str kd)), some (.dat (.list (ms.map mk3))), some (.dat (.list (xs.map fr))), some (.dat (.list (ps.map fr))), some (.dat (fr (maxR ((xs.map absR).take (i + 1))))), some (.dat (fr (tot ((ps.map absR).take i)))), some (.dat (.int kk)), some (.dat (fr (absR (xs.getD i 0)))), none, none, none]) ?_ ?_
    · walk_at "d"
      refine ⟨_, _, rfl, mxo i, dgOk (xdg _ (mem (by omega))).abs (by omega), ?_⟩
      rw [take_snoc ax, maxR_snoc (absR_nn _)]
      walk_at "d"
      refine ite2 (fun c => ?_) (fun c => ?_)
      · rw [if_pos c]
      · rw [if_neg c]
    rintro δ rfl
    walk_at "d"
    refine ⟨_, atI_rat hk' (by omega), _, atI_rat hk' (by omega), ?_⟩
    walk_at "d"
    rw [abs_fr]
    refine sum_fr (tdg i) (pdg _ (mem (by omega))).abs (by omega) ?_
    rw [take_snoc ap, tot_snoc]
    walk_at "d"
    exact ⟨some _, some _, rfl⟩
  rintro δ ⟨o6, o7, rfl⟩
  have e1 : (xs.map absR).take ms.length = xs.map absR := by rw [← lx, ← List.length_map (as := xs) absR, List.take_length]
  have e2 : (ps.map absR).take ms.length = ps.map absR := by rw [← lp, ← List.length_map (as := ps) absR, List.take_length]
  rw [e1, e2]
  dsimp only
  have no : (FairX kd ms xs ps → False) → Q (.dat (.bool false)) := fun h => k false ⟨fun e => (by cases e), fun e => (h e).elim⟩
  obtain ⟨M, hM⟩ : ∃ M, maxR (xs.map absR) = M := ⟨_, rfl⟩
  obtain ⟨S, hS⟩ : ∃ S, tot (ps.map absR) = S := ⟨_, rfl⟩
  rw [hM, hS]
  refine seq_mk (for_rng (lo := 0) (st := 1) (n := ms.length) (fun Q h => by
      walk_at "d"
      refine ⟨by omega, ?_⟩
      rw [lx, Int.toNat_natCast]; exact h)
    (fun i δ => ∃ o6 o7 o8 o9 o10 : Option PyData, δ = [some (.dat (.str kd)), some (.dat (.list (ms.map mk3))), some (.dat (.list (xs.map fr))), some (.dat (.list (ps.map fr))), some (.dat (fr M)), some (.dat (fr S)), o6.map Sl.dat, o7.map Sl.dat, o8.map Sl.dat, o9.map Sl.dat, o10.map Sl.dat] ∧ FairTo kd ms xs ps i)
    ⟨o6, o7, none, none, none, rfl, ⟨fun j h => absurd h (by omega)⟩⟩ ?_ ?_)
  · clear o6 o7
    rintro i δ hi ⟨o6, o7, o8, o9, o10, rfl, ht⟩
    obtain ⟨kk, hk⟩ : ∃ kk : Int, (0 : Int) + (i : Int) * 1 = kk := ⟨_, rfl⟩
    rw [hk]
    have hk' : kk = (i : Int) := by omega
    obtain ⟨x, hx⟩ : ∃ x, xs.getD i 0 = x := ⟨_, rfl⟩
    obtain ⟨p, hp⟩ : ∃ p, ps.getD i 0 = p := ⟨_, rfl⟩
    have ax := atI_rat (qs := xs) hk' (by omega)
    have ap := atI_rat (qs := ps) hk' (by omega)
    rw [hx] at ax
    rw [hp] at ap
    have dx := xdg x (by rw [← hx]; exact mem (by omega))
    have dp := pdg p (by rw [← hp]; exact mem (by omega))
    have am := atI_m3 hk' hi
    obtain ⟨m, hm⟩ : ∃ m, ms[i] = m := ⟨_, rfl⟩
    rw [hm] at am
    have hmm : m ∈ ms := by rw [← hm]; exact List.getElem_mem hi
    have gm : ms.getD i default = m := by rw [getD_of hi, hm]
    have hwm := hw m hmm
    have at_ : FairX kd ms xs ps → FairAt kd M (m.2.2 : Rat) x p := fun h => by
      have := (iff.mp h).1 i hi
      rw [gm, hx, hp, hM] at this
      exact this
    have nx : FairAt kd M (m.2.2 : Rat) x p → FairTo kd ms xs ps (i + 1) := fun h => ht.step (by rw [gm, hx, hp, hM]; exact h)
    walk_at "s"
    refine ⟨_, ax, _, ax, ?_⟩
    walk_at "d"
    rw [abs_fr]
    walk_at "s"
    refine ⟨_, am, ?_⟩
    walk_at "s"
    refine ⟨_, ap, ?_⟩
    obtain ⟨xa, xb, hxd, hxa, hxb⟩ : ∃ xa xb : Int, fr x = .tuple [.int xa, .int xb] ∧ x.num = xa ∧ (x.den : Int) = xb := ⟨_, _, rfl, rfl, rfl⟩
    obtain ⟨pa, pb, hpd, hpa, hpb⟩ : ∃ pa pb : Int, fr p = .tuple [.int pa, .int pb] ∧ p.num = pa ∧ (p.den : Int) = pb := ⟨_, _, rfl, rfl, rfl⟩
    have xb0 : 1 ≤ xb := by have := Fm.den_pos x; omega
    have pb0 : 1 ≤ pb := by have := Fm.den_pos p; omega
    have ox := dgOk dx (by omega)
    have op := dgOk dp (by omega)
    have oxa : Wee xa := by rw [← hxa]; exact ox.n
    have oxb : Wee xb := by rw [← hxb]; exact ox.d
    have opa : Wee pa := by rw [← hpa]; exact op.n
    have opb : Wee pb := by rw [← hpb]; exact op.d
    have ow : Wee m.2.2 := weeLe (n := 200) (by omega) (by decide +kernel)
    rw [hxd] at ax
    rw [hpd] at ap ⊢
    walk_at "d"
    refine cut_mk (fun δ => δ = [some (.dat (.str kd)), some (.dat (.list (ms.map mk3))), some (.dat (.list (xs.map fr))), some (.dat (.list (ps.map fr))), some (.dat (fr M)), some (.dat (fr S)), some (.dat (.int kk)), some (.dat (fr (absR x))), some (.dat (.int m.2.2)), some (.dat (.int pa)), some (.dat (.int pb))] ∧ (kd = "square" → p = (m.2.2 : Rat) * x)) ?_ ?_
    · walk_at "d"
      refine ite2 (fun c => ?_) (fun c => fun h => absurd h c)
      refine ⟨_, ap, _, ax, ?_⟩
      walk_at "d"
      refine ⟨mulOk ow oxa, _, ax, ?_⟩
      walk_at "d"
      refine ⟨_, _, rfl, xb0, oxb, ?_⟩
      rw [← hxa, ← hxb, int_div, ← hpd]
      walk_at "d"
      refine ⟨Rat, eRat, p, (m.2.2 : Rat) * x, rfl, rfl, fun v hv => ?_⟩
      by_cases e : p = (m.2.2 : Rat) * x
      · rw [hv.mpr e]
        walk_at "d"
        exact fun _ => e
      · have : v = false := by
          cases v with
          | false => rfl
          | true => exact absurd (hv.mp rfl) e
        rw [this]
        walk_at "d"
        refine no fun h => e ?_
        have := at_ h
        unfold FairAt at this
        rw [if_neg (by rw [c]; decide), if_neg (by rw [c]; decide)] at this
        exact this
    rintro δ ⟨rfl, q1⟩
    walk_at "d"
    refine cut_mk (fun δ => δ = [some (.dat (.str kd)), some (.dat (.list (ms.map mk3))), some (.dat (.list (xs.map fr))), some (.dat (.list (ps.map fr))), some (.dat (fr M)), some (.dat (fr S)), some (.dat (.int kk)), some (.dat (fr (absR x))), some (.dat (.int m.2.2)), some (.dat (.int pa)), some (.dat (.int pb))] ∧ (kd = "sum" → absR p ≤ (m.2.2 : Rat) ∧ ¬ x * p < 0)) ?_ ?_
    · walk_at "d"
      refine ite2 (fun c => ?_) (fun c => fun h => absurd h c)
      have g1 := ilt_abs m.2.2 p
      have g2 := num_mul_neg x p
      rw [hpa, hpb] at g1
      rw [hxa, hpa] at g2
      have sf : FairX kd ms xs ps → SumAt (m.2.2 : Rat) x p := fun h => by
        have := at_ h
        unfold FairAt at this
        rw [if_neg (by rw [c]; decide), if_pos c] at this
        exact this
      refine ⟨mulOk ow opb, ?_⟩
      refine ite2 (fun c1 => no fun h => absurd (g1.mp c1) (Rat.not_lt.mpr (sf h).1)) (fun c1 => ?_)
      refine ⟨_, ax, ?_⟩
      walk_at "d"
      refine ⟨mulOk oxa opa, ?_⟩
      refine ite2 (fun c2 => no fun h => ((sumAt_iff hwm.1 x p).mp (sf h)).1.2 (g2.mp c2)) (fun c2 => ?_)
      exact fun _ => ⟨Rat.not_lt.mp fun z => c1 (g1.mpr z), fun z => c2 (g2.mpr z)⟩
    rintro δ ⟨rfl, q2⟩
    walk_at "d"
    refine cut_mk (fun δ => δ = [some (.dat (.str kd)), some (.dat (.list (ms.map mk3))), some (.dat (.list (xs.map fr))), some (.dat (.list (ps.map fr))), some (.dat (fr M)), some (.dat (fr S)), some (.dat (.int kk)), some (.dat (fr (absR x))), some (.dat (.int m.2.2)), some (.dat (.int pa)), some (.dat (.int pb))] ∧ (kd = "sum" → x ≠ 0 → absR p = (m.2.2 : Rat))) ?_ ?_
    · walk_at "d"
      refine ite2 (fun c => ?_) (fun c => fun h => absurd h c)
      have g1 := abs_eqi m.2.2 p
      rw [hpa, hpb] at g1
      have x0 : xa = 0 ↔ x = 0 := by rw [← hxa]; exact Rat.num_eq_zero
      refine ⟨_, ax, ?_⟩
      walk_at "d"
      refine ite2 (fun c1 => ?_) (fun c1 => fun _ hx0 => absurd (x0.mp (Decidable.not_not.mp c1)) hx0)
      refine ⟨mulOk ow opb, ?_⟩
      refine ite2 (fun c2 => no fun h => ?_) (fun c2 => fun _ _ => g1.mp (Decidable.not_not.mp c2))
      have := at_ h
      unfold FairAt at this
      rw [if_neg (by rw [c]; decide), if_pos c] at this
      exact c2 (g1.mpr (((sumAt_iff hwm.1 x p).mp this).2 fun z => c1 (x0.mpr z)))
    rintro δ ⟨rfl, q3⟩
    walk_at "d"
    have p0 : pa = 0 ↔ p = 0 := by rw [← hpa]; exact Rat.num_eq_zero
    have g3 := num_mul_pos x p
    rw [hxa, hpa] at g3
    have done : (kd = "far" → FarAt M (x, p)) → FairTo kd ms xs ps (i + 1) := fun h => nx (by
      unfold FairAt
      split
      · exact h ‹_›
      · split
        · exact (sumAt_iff hwm.1 x p).mpr ⟨q2 ‹_›, q3 ‹_›⟩
        · refine q1 ?_
          have : kd = "far" ∨ kd = "sum" ∨ kd = "square" := by simpa [kdsL] using hkd
          rcases this with e | e | e
          · exact absurd e ‹_›
          · exact absurd e ‹_›
          · exact e)
    have fa : kd = "far" → FairX kd ms xs ps → FarAt M (x, p) := fun c h => by
      have := at_ h
      unfold FairAt at this
      rw [if_pos c] at this
      exact this
    refine ite2 (fun c => ?_) (fun c => ⟨some _, some _, some _, some _, some _, rfl, done fun h => absurd h c⟩)
    refine ite2 (fun c1 => ?_) (fun c1 => ⟨some _, some _, some _, some _, some _, rfl, done fun _ hn => absurd (p0.mp (Decidable.not_not.mp c1)) hn⟩)
    refine ⟨_, ax, ?_⟩
    walk_at "d"
    refine ⟨mulOk oxa opa, ?_⟩
    refine ite2 (fun c2 => no fun h => ?_) (fun c2 => ?_)
    · have := (fa c h (fun z => c1 (p0.mpr z))).2
      have := g3.mpr this
      omega
    refine ⟨Rat, eRat, absR x, M, rfl, rfl, fun v hv => ?_⟩
    by_cases e : absR x = M
    · rw [hv.mpr e]
      walk_at "d"
      exact ⟨some _, some _, some _, some _, some _, rfl, done fun _ _ => ⟨e, g3.mp (by omega)⟩⟩
    · have : v = false := by
        cases v with
        | false => rfl
        | true => exact absurd (hv.mp rfl) e
      rw [this]
      walk_at "d"
      exact no fun h => e (fa c h (fun z => c1 (p0.mpr z))).1
  rintro δ ⟨o6, o7, o8, o9, o10, rfl, ht⟩
  dsimp only
  walk_at "d"
  have yes : (kd = "far" → S = 1 ∨ (S = 0 ∧ M = 0)) → Q (.dat (.bool true)) := fun h => k true ⟨fun _ => iff.mpr ⟨fun j hj => ht.h j hj, by rw [hS, hM]; exact h⟩, fun _ => rfl⟩
  refine ite2 (fun c => yes fun h => absurd h c) (fun c => ?_)
  have c := Decidable.not_not.mp c
  have key : ∀ {v : Bool} {a b : Rat}, (v = true ↔ a = b) → (a ≠ b) → v = false := fun {v a b} h n => by
    cases v with
    | false => rfl
    | true => exact absurd (h.mp rfl) n
  have bad : (S ≠ 1) → (S = 0 → M ≠ 0) → Q (.dat (.bool false)) := fun h1 h2 => no fun h => by
    have := (iff.mp h).2 c
    rw [hS, hM] at this
    rcases this with e | ⟨e1, e2⟩
    · exact h1 e
    · exact h2 e1 e2
  refine ⟨Rat, eRat, S, 1, rfl, rfl, fun v hv => ?_⟩
  by_cases e : S = 1
  · rw [hv.mpr e]
    exact yes fun _ => .inl e
  rw [key hv e]
  walk_at "d"
  refine ⟨Rat, eRat, S, 0, rfl, rfl, fun v2 hv2 => ?_⟩
  by_cases e2 : S = 0
  · rw [hv2.mpr e2]
    walk_at "d"
    refine ⟨Rat, eRat, M, 0, rfl, rfl, fun v3 hv3 => ?_⟩
    by_cases e3 : M = 0
    · rw [hv3.mpr e3]
      exact yes fun _ => .inr ⟨e2, e3⟩
    · rw [key hv3 e3]
      exact bad e fun _ => e3
  · rw [key hv2 e2]
    exact bad e fun h => absurd h e2
end
structure SpS (n L B : Nat) (qs : List Rat) : Prop where
  len : qs.length = n
  h : ∀ q ∈ qs, Cm L B q
theorem SpS.mono {n L B L' B' : Nat} {qs : List Rat} (s : SpS n L B qs) (hl : L ∣ L') (hb : B ≤ B') : SpS n L' B' qs := ⟨s.len, fun q hq => (s.h q hq).mono hl hb⟩
theorem SpS.set {n L B : Nat} {qs : List Rat} (s : SpS n L B qs) (i : Nat) {q : Rat} (hq : Cm L B q) : SpS n L B (qs.set i q) := ⟨by rw [List.length_set]; exact s.len, fun x hx => by
  rcases List.mem_or_eq_of_mem_set hx with h | h
  · exact s.h x h
  · rw [h]; exact hq⟩
theorem SpS.at {n L B : Nat} {qs : List Rat} (s : SpS n L B qs) {i : Nat} (h : i < n) : Cm L B (qs.getD i 0) := by
  have := s.len
  refine s.h _ ?_
  rw [getD_of (by omega)]; exact List.getElem_mem _
theorem neg_div (q : Rat) : Rat.divInt (0 - q.num) (q.den : Int) = -q := by
  rw [Int.zero_sub]
  exact Rat.num_divInt_den (-q)
theorem half_div (q : Rat) : Rat.divInt q.num (2 * (q.den : Int)) = Rat.divInt 1 2 * q := by
  have hd := Fm.den_pos q
  refine (Fm.eq_divInt (by omega) ?_).symm
  have e : Rat.divInt 1 2 * (2 : Rat) = 1 := by decide +kernel
  have e2 : ((2 : Int) : Rat) = 2 := rfl
  rw [Rat.intCast_mul, Fm.num_eq q, e2]
  simp only [Rat.intCast_natCast]
  generalize Rat.divInt 1 2 = h at e ⊢
  grind
section
variable {P : Program} {w : World} {K : PySem.W.Frag} {mg : Str → Option Value} {base : Heap} {A : Adr}
noncomputable def wSpoilt : DW := fun ds Q _ => ∃ (row ps : List Rat) (c : Int) (n M : Nat), ds = [.list (row.map fr), .list (ps.map fr), .int c] ∧ 1 ≤ n ∧ n ≤ 12 ∧ 0 < M ∧ M ≤ 10 ^ 46 ∧ SpS n M (10 ^ 50) row ∧ SpS n M (10 ^ 50) ps ∧ ∀ r p : List Rat, SpS n (12 * M) (10 ^ 54) r → SpS n (12 * M) (10 ^ 54) p → Q (.own [.list (r.map fr), .list (p.map fr)])
theorem ok_law_spoilt (T : Txt K mg A) : FnOk P w K mg base (CXE P w) 3 A.a_law_spoilt A.d_law_spoilt ["row", "pulls", "cell"] (spW K wSpoilt) := by
  have G_law_sum := ok_law_sum (P := P) (w := w) (base := base) T
  have G_law_low := ok_law_low (P := P) (w := w) (base := base) T
  refine okW T.F_law_spoilt sc_law_spoilt (fun ds Q E h => ?_) (fun cdv Ar outer s H E hr => ?_)
  · obtain ⟨_, _, _, _, _, rfl, _⟩ := h; rfl
  refine ⟨_, (pss_cons (ps_set (i := 0) sc_law_spoilt.nd rfl (Or.inl rfl) (pe_callTy (listK (K := K) rfl) rfl T.n_list bt_list (pa_cons (pv 0) pa_nil)))
      (pss_cons (ps_set (i := 1) sc_law_spoilt.nd rfl (Or.inl rfl) (pe_callTy (listK (K := K) rfl) rfl T.n_list bt_list (pa_cons (pv 1) pa_nil)))
      (pss_cons (ps_set (i := 3) sc_law_spoilt.nd rfl (Or.inl rfl) (pe_op op_mod (pe_op op_fdivB (pv 2) pe_int) (pe_callB (lenK (K := K) rfl) rfl T.n_len PySem.boot_len (pa_cons (pv 0) pa_nil))))
      (pss_cons (ps_set (i := 4) sc_law_spoilt.nd rfl (Or.inl rfl) (pe_op op_mod (pe_op op_fdivB (pv 2) pe_int) (pe_callB (lenK (K := K) rfl) rfl T.n_len PySem.boot_len (pa_cons (pv 0) pa_nil))))
      (pss_cons (ps_set (i := 5) sc_law_spoilt.nd rfl (Or.inl rfl) (pe_op op_mod (pv 2) pe_int))
      (pss_cons (ps_set (i := 6) sc_law_spoilt.nd rfl (Or.inl rfl) (pe_call G_law_low (hr.mono (by decide)) rfl T.m_law_low T.F_law_low.kp T.b_law_low .nil passE0 (pa_cons (pe_op op_sub (pe_op op_mod (pe_op op_fdivB (pv 2) pe_int) pe_int) pe_int) (pa_cons (pe_op op_add pe_int (pe_op op_mod (pe_op op_fdivB (pv 2) pe_int) pe_int)) pa_nil))))
      (pss_cons (ps_if (pt_cmpR op_eq (pv 5) pe_int (nomark _)) (pss_one (ps_asg (pe_call G_law_sum (hr.mono (by decide)) rfl T.m_law_sum T.F_law_sum.kp T.b_law_sum .nil passE0 (pa_cons (pe_ix (ixlK (K := K) rfl) (pv 0) (pv 3) (fun _ _ => rfl)) (pa_cons (pv 6) pa_nil))) (pg_sub (pv 0) (pv 3) set_list))) pss_nil)
      (pss_cons (ps_if (pt_cmpR op_eq (pv 5) pe_int (nomark _)) (pss_one (ps_asg (pe_tup (pa_cons (pe_ix (ixlK (K := K) rfl) (pv 0) (pv 4) (fun _ _ => rfl)) (pa_cons (pe_ix (ixlK (K := K) rfl) (pv 0) (pv 3) (fun _ _ => rfl)) pa_nil))) (pgtK (K := K) (n := 2) rfl rfl (pgs_cons (pg_sub (pv 0) (pv 3) set_list) (pgs_cons (pg_sub (pv 0) (pv 4) set_list) pgs_nil))))) pss_nil)
      (pss_cons (ps_if (pt_cmpR op_eq (pv 5) pe_int (nomark _)) (pss_one (ps_asg (pe_call G_law_sum (hr.mono (by decide)) rfl T.m_law_sum T.F_law_sum.kp T.b_law_sum .nil passE0 (pa_cons (pe_ix (ixlK (K := K) rfl) (pv 1) (pv 3) (fun _ _ => rfl)) (pa_cons (pv 6) pa_nil))) (pg_sub (pv 1) (pv 3) set_list))) pss_nil)
      (pss_cons (ps_if (pt_cmpR op_eq (pv 5) pe_int (nomark _)) (pss_one (ps_asg (pe_tup (pa_cons (pe_ix (ixlK (K := K) rfl) (pv 1) (pv 4) (fun _ _ => rfl)) (pa_cons (pe_ix (ixlK (K := K) rfl) (pv 1) (pv 3) (fun _ _ => rfl)) pa_nil))) (pgtK (K := K) (n := 2) rfl rfl (pgs_cons (pg_sub (pv 1) (pv 3) set_list) (pgs_cons (pg_sub (pv 1) (pv 4) set_list) pgs_nil))))) pss_nil)
      (pss_cons (ps_if (pt_cmpR op_eq (pv 5) pe_int (nomark _)) (pss_one (ps_setLC (i := 1) (cap := [none]) (NC := ["one"]) sc_law_spoilt.nd rfl rfl rfl ⟨rfl, rfl, by decide +kernel, by decide +kernel, trivial, (fun _ h => nomatch h), rfl⟩ (pilK (K := K) rfl (pv 1)) (fun _ _ _ _ => (pg_name (i := 0) (show List.Nodup (["one"] : List Str) by decide) rfl (Or.inl rfl))) (fun _ _ _ _ => pts_nil) (fun _ _ _ _ => (pe_tup (pa_cons pe_int (pa_cons pe_int pa_nil)))))) pss_nil)
      (pss_cons (ps_if (pt_cmpR op_eq (pv 5) pe_int (nomark _)) (pss_one (ps_setLC (i := 1) (cap := [none]) (NC := ["one"]) sc_law_spoilt.nd rfl rfl rfl ⟨rfl, rfl, by decide +kernel, by decide +kernel, trivial, (fun _ h => nomatch h), rfl⟩ (pilK (K := K) rfl (pv 1)) (fun _ _ _ _ => (pg_name (i := 0) (show List.Nodup (["one"] : List Str) by decide) rfl (Or.inl rfl))) (fun _ _ _ _ => pts_nil) (fun _ _ _ _ => (pe_call G_law_low (hr.mono (by decide)) rfl T.m_law_low T.F_law_low.kp T.b_law_low .nil passE0 (pa_cons (pe_op op_mulB pe_int (pe_ix (ixtK (K := K) rfl) (pv 0) pe_int (fun _ _ => rfl))) (pa_cons (pe_ix (ixtK (K := K) rfl) (pv 0) pe_int (fun _ _ => rfl)) pa_nil)))))) pss_nil)
      (pss_cons (ps_if (pt_cmpR op_eq (pv 5) pe_int (nomark _)) (pss_one (ps_setLC (i := 1) (cap := [none]) (NC := ["one"]) sc_law_spoilt.nd rfl rfl rfl ⟨rfl, rfl, by decide +kernel, by decide +kernel, trivial, (fun _ h => nomatch h), rfl⟩ (pilK (K := K) rfl (pv 1)) (fun _ _ _ _ => (pg_name (i := 0) (show List.Nodup (["one"] : List Str) by decide) rfl (Or.inl rfl))) (fun _ _ _ _ => pts_nil) (fun _ _ _ _ => (pe_call G_law_low (hr.mono (by decide)) rfl T.m_law_low T.F_law_low.kp T.b_law_low .nil passE0 (pa_cons (pe_ix (ixtK (K := K) rfl) (pv 0) pe_int (fun _ _ => rfl)) (pa_cons (pe_op op_mulB pe_int (pe_ix (ixtK (K := K) rfl) (pv 0) pe_int (fun _ _ => rfl))) pa_nil)))))) pss_nil)
      (pss_cons (ps_if (pt_cmpR op_eq (pv 5) pe_int (nomark _)) (pss_cons (ps_asg (pe_call G_law_sum (hr.mono (by decide)) rfl T.m_law_sum T.F_law_sum.kp T.b_law_sum .nil passE0 (pa_cons (pe_ix (ixlK (K := K) rfl) (pv 1) (pv 3) (fun _ _ => rfl)) (pa_cons (pv 6) pa_nil))) (pg_sub (pv 1) (pv 3) set_list))
      (pss_one (ps_asg (pe_call G_law_sum (hr.mono (by decide)) rfl T.m_law_sum T.F_law_sum.kp T.b_law_sum .nil passE0 (pa_cons (pe_ix (ixlK (K := K) rfl) (pv 1) (pv 4) (fun _ _ => rfl)) (pa_cons (pe_tup (pa_cons (pe_op op_sub pe_int (pe_ix (ixtK (K := K) rfl) (pv 6) pe_int (fun _ _ => rfl))) (pa_cons (pe_ix (ixtK (K := K) rfl) (pv 6) pe_int (fun _ _ => rfl)) pa_nil))) pa_nil))) (pg_sub (pv 1) (pv 4) set_list)))) pss_nil)
      (pss_one (ps_ret (pe_lst (pa_cons (pv 0) (pa_cons (pv 1) pa_nil))))))))))))))))))), _, (sv_seq (sv_setO 0 (ov_list (lv_var 0)))
      (sv_seq (sv_setO 1 (ov_list (lv_var 1)))
      (sv_seq (sv_asg (ev_op ro_i (bv_ev (ev_dvk (k := 9) (cdiv (by decide +kernel)) (bv_var 2) ev_int)) (bv_ev (ev_cb rb_len (av_cons (bv_var 0) av_nil)))) (gv_name 3))
      (sv_seq (sv_asg (ev_op ro_i (bv_ev (ev_dvk (k := 63) (cdiv (by decide +kernel)) (bv_var 2) ev_int)) (bv_ev (ev_cb rb_len (av_cons (bv_var 0) av_nil)))) (gv_name 4))
      (sv_seq (sv_asg (ev_mdk (k := 9) (by decide) (bv_var 2) ev_int) (gv_name 5))
      (sv_seq (sv_asg (ev_call0 (av_cons (bv_ev (ev_op ro_i0 (bv_ev (ev_mdk (k := 5) (by decide) (bv_ev (ev_dvk (k := 441) (cdiv (by decide +kernel)) (bv_var 2) ev_int)) ev_int)) (bv_ev ev_int))) (av_cons (bv_ev (ev_op ro_i0 (bv_ev ev_int) (bv_ev (ev_mdk (k := 3) (by decide) (bv_ev (ev_dvk (k := 2205) (cdiv (by decide +kernel)) (bv_var 2) ev_int)) ev_int)))) av_nil))) (gv_name 6))
      (sv_cut (sv_if (tv_test (bv_ev (ev_op ro_eq (bv_var 5) (bv_ev ev_int)))) (sv_putAt 0 (ev_call0 (av_cons (bv_ev (ev_ixl (lv_var 0) (bv_var 3))) (av_cons (bv_var 6) av_nil))) (bv_var 3)) sv_next)
      (sv_cut (sv_if (tv_test (bv_ev (ev_op ro_eq (bv_var 5) (bv_ev ev_int)))) (sv_put2 0 0 (ev_tup (ae_cons (ev_ixl (lv_var 0) (bv_var 4)) (ae_cons (ev_ixl (lv_var 0) (bv_var 3)) ae_nil)) (by decide)) (bv_var 3) (bv_var 4)) sv_next)
      (sv_cut (sv_if (tv_test (bv_ev (ev_op ro_eq (bv_var 5) (bv_ev ev_int)))) (sv_putAt 1 (ev_call0 (av_cons (bv_ev (ev_ixl (lv_var 1) (bv_var 3))) (av_cons (bv_var 6) av_nil))) (bv_var 3)) sv_next)
      (sv_cut (sv_if (tv_test (bv_ev (ev_op ro_eq (bv_var 5) (bv_ev ev_int)))) (sv_put2 1 1 (ev_tup (ae_cons (ev_ixl (lv_var 1) (bv_var 4)) (ae_cons (ev_ixl (lv_var 1) (bv_var 3)) ae_nil)) (by decide)) (bv_var 3) (bv_var 4)) sv_next)
      (sv_cut (sv_if (tv_test (bv_ev (ev_op ro_eq (bv_var 5) (bv_ev ev_int)))) (sv_setO 1 (ov_lc (ie_list (lv_var 1)) (gv_name 0) tv_yes (ev_tup (ae_cons ev_int (ae_cons ev_int ae_nil)) (by decide)) (by decide) (by decide))) sv_next)
      (sv_cut (sv_if (tv_test (bv_ev (ev_op ro_eq (bv_var 5) (bv_ev ev_int)))) (sv_setO 1 (ov_lc (ie_list (lv_var 1)) (gv_name 0) tv_yes (ev_call0 (av_cons (bv_ev (ev_op ro_i (bv_ev ev_int) (bv_ev (ev_ixk 0 (ev_var 0))))) (av_cons (bv_ev (ev_ixk 1 (ev_var 0))) av_nil))) (by decide) (by decide))) sv_next)
      (sv_cut (sv_if (tv_test (bv_ev (ev_op ro_eq (bv_var 5) (bv_ev ev_int)))) (sv_setO 1 (ov_lc (ie_list (lv_var 1)) (gv_name 0) tv_yes (ev_call0 (av_cons (bv_ev (ev_ixk 0 (ev_var 0))) (av_cons (bv_ev (ev_op ro_i (bv_ev ev_int) (bv_ev (ev_ixk 1 (ev_var 0))))) av_nil))) (by decide) (by decide))) sv_next)
      (sv_cut (sv_if (tv_test (bv_ev (ev_op ro_eq (bv_var 5) (bv_ev ev_int)))) (sv_seq (sv_putAt 1 (ev_call0 (av_cons (bv_ev (ev_ixl (lv_var 1) (bv_var 3))) (av_cons (bv_var 6) av_nil))) (bv_var 3))
      (sv_putAt 1 (ev_call0 (av_cons (bv_ev (ev_ixl (lv_var 1) (bv_var 4))) (av_cons (bv_ev (ev_tup (ae_cons (ev_op ro_i0 (bv_ev ev_int) (bv_ev (ev_ixk 0 (ev_var 6)))) (ae_cons (ev_ixk 1 (ev_var 6)) ae_nil)) (by decide))) av_nil))) (bv_var 4))) sv_next)
      (sv_frz 1 (sv_frz 0 (sv_retO (ov_lst (ae_cons (ev_var 0) (ae_cons (ev_var 1) ae_nil)) (by decide))))))))))))))))))), ?_⟩
  rintro ds Q X ⟨row, ps, c, n, M, rfl, n1, n12, M0, M1, sr, sp, k⟩
  have lr := sr.len
  have lp := sp.len
  walk_at "s"
  walk_at "s"
  walk_at "s"
  refine ⟨by omega, ?_⟩
  rw [lr]
  obtain ⟨i, hi, hin⟩ : ∃ i : Nat, c / 9 % (n : Int) = (i : Int) ∧ i < n := by
    have e0 := Int.emod_nonneg (c / 9) (show (n : Int) ≠ 0 by omega)
    have e1 := Int.emod_lt_of_pos (c / 9) (show (0 : Int) < (n : Int) by omega)
    exact ⟨(c / 9 % (n : Int)).toNat, by omega, by omega⟩
  obtain ⟨j, hj, hjn⟩ : ∃ j : Nat, c / 63 % (n : Int) = (j : Int) ∧ j < n := by
    have e0 := Int.emod_nonneg (c / 63) (show (n : Int) ≠ 0 by omega)
    have e1 := Int.emod_lt_of_pos (c / 63) (show (0 : Int) < (n : Int) by omega)
    exact ⟨(c / 63 % (n : Int)).toNat, by omega, by omega⟩
  rw [hi]
  walk_at "s"
  refine ⟨by omega, ?_⟩
  rw [lr, hj]
  walk_at "s"
  obtain ⟨wy, hwy⟩ : ∃ wy : Int, c % 9 = wy := ⟨_, rfl⟩
  rw [hwy]
  walk_at "s"
  obtain ⟨sb, hsb, sb1, sb3⟩ : ∃ sb : Nat, 1 + c / 2205 % 3 = (sb : Int) ∧ 1 ≤ sb ∧ sb ≤ 3 := ⟨(1 + c / 2205 % 3).toNat, by omega, by omega, by omega⟩
  rw [hsb]
  refine ⟨_, _, rfl, by omega, weeLe (n := 3) (by omega) (by decide +kernel), ?_⟩
  obtain ⟨st, hst, cst⟩ : ∃ st, Rat.divInt (c / 441 % 5 - 2) (sb : Int) = st ∧ Cm 6 2 st := ⟨_, rfl, by
    have hd : sb ∣ 6 := by
      have : sb = 1 ∨ sb = 2 ∨ sb = 3 := by omega
      rcases this with rfl | rfl | rfl <;> decide
    exact Cm.div (by omega) hd (by omega)⟩
  rw [hst]
  have dst : Dg 3 st := cst.dg (by decide) (l := 1) (by decide) (b := 1) (by decide)
  have cs6 : ∀ {L : Nat}, 6 ∣ L → Cm L 2 st := fun h => cst.mono h (Nat.le_refl _)
  have six : 6 ∣ 6 * M := Nat.dvd_mul_right _ _
  have twelve : 6 * M ∣ 12 * M := ⟨2, by omega⟩
  have dgr : ∀ {B : Nat} {q : Rat}, B ≤ 10 ^ 55 → Cm (12 * M) B q → Dg 104 q := fun hb h => h.dg (by omega) (l := 48) (by omega) (b := 55) hb
  have dg6 : ∀ {B : Nat} {q : Rat}, B ≤ 10 ^ 55 → Cm (6 * M) B q → Dg 104 q := fun hb h => dgr hb (h.mono twelve (Nat.le_refl _))
  have sr1 : SpS n (6 * M) (1 * 10 ^ 50) row := sr.mono (Nat.dvd_mul_left _ _) (by decide)
  have sp1 : SpS n (6 * M) (1 * 10 ^ 50) ps := sp.mono (Nat.dvd_mul_left _ _) (by decide)
  clear sr sp hsb hst hwy hi hj
  walk_at "d"
  refine cut_mk (fun δ => ∃ r p : List Rat, δ = [some (.own (r.map fr)), some (.own (p.map fr)), some (.dat (.int c)), some (.dat (.int (i : Int))), some (.dat (.int (j : Int))), some (.dat (.int wy)), some (.dat (fr st))] ∧ SpS n (6 * M) (2 * 10 ^ 50) r ∧ SpS n (6 * M) (1 * 10 ^ 50) p) ?_ ?_
  · walk_at "d"
    refine ite2 (fun c1 => ?_) (fun c1 => ⟨row, ps, rfl, sr1.mono (Nat.dvd_refl _) (by decide), sp1⟩)
    have lx := sr1.len
    refine ⟨_, atI_rat rfl (by omega), ?_⟩
    refine sum_fr (dg6 (by decide +kernel) (sr1.at hin)) dst (by decide) ?_
    walk_at "d"
    refine ⟨i, ixN_nat' rfl (by omega), row.set i (row.getD i 0 + st), ps, by rw [List.map_set], (sr1.mono (Nat.dvd_refl _) (by decide)).set i (((sr1.at hin).add (cs6 six)).mono (Nat.dvd_refl _) (by decide)), sp1⟩
  clear sr1 sp1 lr lp
  rintro δ ⟨r, p, rfl, sr, sp⟩
  walk_at "d"
  refine cut_mk (fun δ => ∃ r p : List Rat, δ = [some (.own (r.map fr)), some (.own (p.map fr)), some (.dat (.int c)), some (.dat (.int (i : Int))), some (.dat (.int (j : Int))), some (.dat (.int wy)), some (.dat (fr st))] ∧ SpS n (6 * M) (2 * 10 ^ 50) r ∧ SpS n (6 * M) (1 * 10 ^ 50) p) ?_ ?_
  · walk_at "d"
    refine ite2 (fun c1 => ?_) (fun c1 => ⟨r, p, rfl, sr, sp⟩)
    have lx := sr.len
    exact ⟨_, atI_rat rfl (by omega), _, atI_rat rfl (by omega), i, ixN_nat' rfl (by omega), j, ixN_nat' rfl (by rw [List.length_set, List.length_map]; omega), (r.set i (r.getD j 0)).set j (r.getD i 0), p, by rw [List.map_set, List.map_set], (sr.set i (sr.at hjn)).set j (sr.at hin), sp⟩
  clear sr sp r p
  rintro δ ⟨r, p, rfl, sr, sp⟩
  walk_at "d"
  refine cut_mk (fun δ => ∃ r p : List Rat, δ = [some (.own (r.map fr)), some (.own (p.map fr)), some (.dat (.int c)), some (.dat (.int (i : Int))), some (.dat (.int (j : Int))), some (.dat (.int wy)), some (.dat (fr st))] ∧ SpS n (6 * M) (2 * 10 ^ 50) r ∧ SpS n (6 * M) (2 * 10 ^ 50) p) ?_ ?_
  · walk_at "d"
    refine ite2 (fun c1 => ?_) (fun c1 => ⟨r, p, rfl, sr, sp.mono (Nat.dvd_refl _) (by decide)⟩)
    have lx := sp.len
    refine ⟨_, atI_rat rfl (by omega), ?_⟩
    refine sum_fr (dg6 (by decide +kernel) (sp.at hin)) dst (by decide) ?_
    walk_at "d"
    refine ⟨i, ixN_nat' rfl (by omega), r, p.set i (p.getD i 0 + st), by rw [List.map_set], sr, (sp.mono (Nat.dvd_refl _) (by decide)).set i (((sp.at hin).add (cs6 six)).mono (Nat.dvd_refl _) (by decide))⟩
  clear sr sp r p
  rintro δ ⟨r, p, rfl, sr, sp⟩
  walk_at "d"
  refine cut_mk (fun δ => ∃ r p : List Rat, δ = [some (.own (r.map fr)), some (.own (p.map fr)), some (.dat (.int c)), some (.dat (.int (i : Int))), some (.dat (.int (j : Int))), some (.dat (.int wy)), some (.dat (fr st))] ∧ SpS n (6 * M) (2 * 10 ^ 50) r ∧ SpS n (6 * M) (2 * 10 ^ 50) p) ?_ ?_
  · walk_at "d"
    refine ite2 (fun c1 => ?_) (fun c1 => ⟨r, p, rfl, sr, sp⟩)
    have lx := sp.len
    exact ⟨_, atI_rat rfl (by omega), _, atI_rat rfl (by omega), i, ixN_nat' rfl (by omega), j, ixN_nat' rfl (by rw [List.length_set, List.length_map]; omega), r, (p.set i (p.getD j 0)).set j (p.getD i 0), by rw [List.map_set, List.map_set], sr, (sp.set i (sp.at hjn)).set j (sp.at hin)⟩
  clear sr sp r p
  rintro δ ⟨r, p, rfl, sr, sp⟩
  walk_at "d"
  refine cut_mk (fun δ => ∃ r p : List Rat, δ = [some (.own (r.map fr)), some (.own (p.map fr)), some (.dat (.int c)), some (.dat (.int (i : Int))), some (.dat (.int (j : Int))), some (.dat (.int wy)), some (.dat (fr st))] ∧ SpS n (6 * M) (2 * 10 ^ 50) r ∧ SpS n (6 * M) (2 * 10 ^ 50) p) ?_ ?_
  · walk_at "d"
    refine ite2 (fun c1 => ?_) (fun c1 => ⟨r, p, rfl, sr, sp⟩)
    have lx := sp.len
    refine lc_map fr fr (fun _ : Rat => [(0 : Rat)]) p (by omega) (fun Q h => by walk_at "d"; exact h) (fun q hq N acc hN => ?_) ?_
    · walk_at "d"
      exact hN
    rw [flat_single]
    exact ⟨r, p.map fun _ => 0, rfl, sr, ⟨by rw [List.length_map]; exact lx, fun q hq => by
      obtain ⟨_, _, rfl⟩ := List.mem_map.mp hq
      exact Cm.zero⟩⟩
  clear sr sp r p
  rintro δ ⟨r, p, rfl, sr, sp⟩
  walk_at "d"
  refine cut_mk (fun δ => ∃ r p : List Rat, δ = [some (.own (r.map fr)), some (.own (p.map fr)), some (.dat (.int c)), some (.dat (.int (i : Int))), some (.dat (.int (j : Int))), some (.dat (.int wy)), some (.dat (fr st))] ∧ SpS n (6 * M) (2 * 10 ^ 50) r ∧ SpS n (6 * M) (4 * 10 ^ 50) p) ?_ ?_
  · walk_at "d"
    refine ite2 (fun c1 => ?_) (fun c1 => ⟨r, p, rfl, sr, sp.mono (Nat.dvd_refl _) (by decide)⟩)
    have lx := sp.len
    refine lc_map fr fr (fun q : Rat => [((2 : Int) : Rat) * q]) p (by omega) (fun Q h => by walk_at "d"; exact h) (fun q hq N acc hN => ?_) ?_
    · have oq := dgOk (dg6 (by decide +kernel) (sp.h q hq)) (by decide)
      have dq := Fm.den_pos q
      walk_at "d"
      refine ⟨mulOk (wee (by decide +kernel)) oq.n, _, _, rfl, by omega, oq.d, ?_⟩
      rw [int_div]
      walk_at "d"
      exact hN
    rw [flat_single]
    exact ⟨r, p.map fun q => ((2 : Int) : Rat) * q, rfl, sr, ⟨by rw [List.length_map]; exact lx, fun q hq => by
      obtain ⟨x, hx, rfl⟩ := List.mem_map.mp hq
      have := (Cm.int (i := 2) (B := 2) (by decide)).mul (sp.h x hx)
      rw [Nat.one_mul] at this
      exact this.mono (Nat.dvd_refl _) (by decide)⟩⟩
  clear sr sp r p
  rintro δ ⟨r, p, rfl, sr, sp⟩
  walk_at "d"
  refine cut_mk (fun δ => ∃ r p : List Rat, δ = [some (.own (r.map fr)), some (.own (p.map fr)), some (.dat (.int c)), some (.dat (.int (i : Int))), some (.dat (.int (j : Int))), some (.dat (.int wy)), some (.dat (fr st))] ∧ SpS n (6 * M) (2 * 10 ^ 50) r ∧ SpS n (12 * M) (4 * 10 ^ 50) p) ?_ ?_
  · walk_at "d"
    refine ite2 (fun c1 => ?_) (fun c1 => ⟨r, p, rfl, sr, sp.mono twelve (Nat.le_refl _)⟩)
    have lx := sp.len
    refine lc_map fr fr (fun q : Rat => [Rat.divInt 1 2 * q]) p (by omega) (fun Q h => by walk_at "d"; exact h) (fun q hq N acc hN => ?_) ?_
    · have gq := dg6 (by decide +kernel) (sp.h q hq)
      have oq := dgOk gq (by decide)
      have dq := Fm.den_pos q
      have dq2 := gq.d
      have wd : Wee (2 * (q.den : Int)) := tenWee (n := 105) (by rw [Int.natAbs_mul, Int.natAbs_natCast]; exact Nat.le_trans (Nat.mul_le_mul_left 2 dq2) (by decide +kernel)) (by decide)
      walk_at "d"
      refine ⟨mulOk (wee (by decide +kernel)) oq.d, _, _, rfl, by omega, wd, ?_⟩
      rw [half_div]
      walk_at "d"
      exact hN
    rw [flat_single]
    exact ⟨r, p.map fun q => Rat.divInt 1 2 * q, rfl, sr, ⟨by rw [List.length_map]; exact lx, fun q hq => by
      obtain ⟨x, hx, rfl⟩ := List.mem_map.mp hq
      have := (Cm.div (t := 1) (b := 2) (L := 2) (B := 1) (by decide) (by decide) (by decide)).mul (sp.h x hx)
      rw [Nat.one_mul] at this
      exact this.mono ⟨1, by omega⟩ (Nat.le_refl _)⟩⟩
  clear sr sp r p
  rintro δ ⟨r, p, rfl, sr, sp⟩
  walk_at "d"
  refine cut_mk (fun δ => ∃ r p : List Rat, δ = [some (.own (r.map fr)), some (.own (p.map fr)), some (.dat (.int c)), some (.dat (.int (i : Int))), some (.dat (.int (j : Int))), some (.dat (.int wy)), some (.dat (fr st))] ∧ SpS n (6 * M) (2 * 10 ^ 50) r ∧ SpS n (12 * M) (8 * 10 ^ 50) p) ?_ ?_
  · walk_at "d"
    refine ite2 (fun c1 => ?_) (fun c1 => ⟨r, p, rfl, sr, sp.mono (Nat.dvd_refl _) (by decide)⟩)
    have lx := sp.len
    refine seq_mk ?_
    walk_at "d"
    refine ⟨_, atI_rat rfl (by omega), ?_⟩
    refine sum_fr (dgr (by decide +kernel) (sp.at hin)) dst (by decide) ?_
    walk_at "d"
    refine ⟨i, ixN_nat' rfl (by omega), ?_⟩
    have s12 : 6 ∣ 12 * M := ⟨2 * M, by omega⟩
    have sq : SpS n (12 * M) (4 * 10 ^ 50 + 2) (p.set i (p.getD i 0 + st)) := (sp.mono (Nat.dvd_refl _) (by decide)).set i ((sp.at hin).add (cs6 s12))
    obtain ⟨p2, hp2⟩ : ∃ p2, p.set i (p.getD i 0 + st) = p2 := ⟨_, rfl⟩
    rw [← List.map_set, hp2]
    rw [hp2] at sq
    have lx2 := sq.len
    walk_at "d"
    refine ⟨_, atI_rat rfl (by omega), ?_⟩
    have dsp := Fm.den_pos st
    refine sum_fp (u := 0 - st.num) (c := (st.den : Int)) (m := 3) (dgr (by decide +kernel) (sq.at hjn)) (by omega) (by have := dst.n; omega) (by have := dst.d; omega) (by decide) ?_
    rw [neg_div]
    walk_at "d"
    exact ⟨j, ixN_nat' rfl (by omega), r, p2.set j (p2.getD j 0 + -st), by rw [List.map_set], sr, (sq.mono (Nat.dvd_refl _) (by decide)).set j (((sq.at hjn).add (cs6 s12).neg).mono (Nat.dvd_refl _) (by decide))⟩
  clear sr sp r p
  rintro δ ⟨r, p, rfl, sr, sp⟩
  walk_at "d"
  exact k r p (sr.mono twelve (by decide)) (sp.mono (Nat.dvd_refl _) (by decide))
end
theorem lay_szs {kd : Str} {ms : List Mk} {L : Nat} {bs : List (List Mk)} (hk : kd = "sum" ∨ kd = "square") (hx : ∀ A : List Mk, A ≠ [] → (∀ m ∈ A, 1 ≤ m.2.2) → ∃ x, LevelOk kd A x) (e : bs.flatten = ms) (hne : ∀ B ∈ bs, B ≠ []) (n12 : ms.length ≤ 12) (L0 : 0 < L) (L1 : L ≤ 12) (hc : ∀ m ∈ ms, Cm L (10 ^ 31) m.2.1) (hw : ∀ m ∈ ms, 1 ≤ m.2.2 ∧ m.2.2 ≤ 200) :
    ∃ M : Nat, 0 < M ∧ M ≤ 10 ^ 45 ∧ L ∣ M ∧ ∀ q ∈ lay (levF kd) bs, Cm M (10 ^ 32) q := by
  obtain ⟨p0, p1⟩ := prodW_ms (W := 200) (N := 12) e hne hw n12 (by decide)
  refine ⟨2 * L * prodW bs, Nat.mul_pos (by omega) p0, ?_, ?_, fun q hq => (lay_cm hk hx e hne (fun m h => (hw m h).1) hc q hq).mono (Nat.dvd_refl _) (by decide +kernel)⟩
  · exact Nat.le_trans (Nat.mul_le_mul (Nat.mul_le_mul_left 2 L1) p1) (by decide +kernel)
  · rw [Nat.mul_comm 2 L, Nat.mul_assoc]; exact Nat.dvd_mul_right _ _
theorem rise_szs {kd : Str} {ms : List Mk} {L : Nat} {row ps : List Rat} (hk : kd ∈ kdsL) (n12 : ms.length ≤ 12) (L0 : 0 < L) (L1 : L ≤ 12) (hc : ∀ m ∈ ms, Cm L (10 ^ 31) m.2.1) (hw : ∀ m ∈ ms, 1 ≤ m.2.2 ∧ m.2.2 ≤ 200) (F : RiseOk kd ms row ps) :
    ∃ M : Nat, 0 < M ∧ M ≤ 10 ^ 45 ∧ L ∣ M ∧ ∀ q ∈ row, Cm M (10 ^ 32) q := by
  have hk3 : kd = "far" ∨ kd = "sum" ∨ kd = "square" := by simpa [kdsL] using hk
  have hw1 : ∀ m ∈ ms, 1 ≤ m.2.2 := fun m h => (hw m h).1
  rcases hk3 with rfl | rfl | rfl
  · refine ⟨2 * L, by omega, Nat.le_trans (Nat.mul_le_mul_left 2 L1) (by decide +kernel), Nat.dvd_mul_left _ _, fun q hq => ?_⟩
    exact (far_row (F.far rfl) (L := L) (B := 10 ^ 31) (fun q hq => by
      obtain ⟨z, hz, rfl⟩ := List.mem_map.mp hq
      exact hc z hz) q hq).mono (Nat.dvd_refl _) (by decide +kernel)
  · obtain ⟨rfl, _⟩ := F.sum rfl
    obtain ⟨S, e⟩ := sum_blocks hw1
    unfold rowQ
    generalize hb : (poolN (levF "sum") ms).reverse = bs at *
    exact lay_szs (.inl rfl) (fun A h1 h2 => levS_ex h1 h2) e (fun B hB => (S.blk B (by rw [← hb] at hB; exact List.mem_reverse.mp hB)).ne) n12 L0 L1 hc hw
  · obtain ⟨rfl, _⟩ := F.sq rfl
    obtain ⟨S, e⟩ := sq_blocks hw1
    unfold rowQ
    generalize hb : (poolN (levF "square") ms).reverse = bs at *
    exact lay_szs (.inr rfl) (fun A h1 h2 => levQ_ex h1 h2) e (fun B hB => (S.blk B (by rw [← hb] at hB; exact List.mem_reverse.mp hB)).ne) n12 L0 L1 hc hw
theorem kds_ok {kd : Str} (h : kd ∈ kdsL) : PyData.strOk kd = true := by
  have : kd = "far" ∨ kd = "sum" ∨ kd = "square" := by simpa [kdsL] using h
  rcases this with rfl | rfl | rfl <;> decide +kernel
theorem atI_some {α : Type} {xs : List α} {i : Int} (h0 : 0 ≤ i) (h1 : i < (xs.length : Int)) : ∃ x, x ∈ xs ∧ atI xs i = some x := by
  obtain ⟨n, rfl⟩ : ∃ n : Nat, i = (n : Int) := ⟨i.toNat, by omega⟩
  have hn : n < xs.length := by omega
  exact ⟨xs[n], List.getElem_mem hn, atI_nat (List.getElem?_eq_getElem hn)⟩
theorem pull_szs {kd : Str} {ms : List Mk} {L : Nat} {row ps : List Rat} (hk : kd ∈ kdsL) (n12 : ms.length ≤ 12) (L0 : 0 < L) (L1 : L ≤ 12) (hc : ∀ m ∈ ms, Cm L (10 ^ 31) m.2.1) (hw : ∀ m ∈ ms, 1 ≤ m.2.2 ∧ m.2.2 ≤ 200) (F : RiseOk kd ms row ps) :
    ∃ M : Nat, 0 < M ∧ M ≤ 10 ^ 46 ∧ L ∣ M ∧ (∀ q ∈ row, Cm M (10 ^ 50) q) ∧ ∀ p ∈ ps, Cm M (10 ^ 50) p := by
  obtain ⟨M, M0, M1, LM, hr⟩ := rise_szs hk n12 L0 L1 hc hw F
  have RFs := rise_rf hk (fun m h => (hw m h).1) F
  have hl := RFs.len
  have hpl := RFs.plen
  refine ⟨2 * M, by omega, by omega, Nat.dvd_trans LM (Nat.dvd_mul_left _ _), fun q hq => (hr q hq).mono (Nat.dvd_mul_left _ _) (by decide), fun p hp => ?_⟩
  have hk3 : kd = "far" ∨ kd = "sum" ∨ kd = "square" := by simpa [kdsL] using hk
  rcases hk3 with rfl | rfl | rfl
  · obtain ⟨m, sp, h1, _, _, _, h5, _⟩ := (F.far rfl).h
    obtain ⟨i, hi, rfl⟩ := List.getElem_of_mem hp
    have e := h5 i (by rw [List.length_map]; omega)
    rw [getD_of hi] at e
    rw [e]
    have hh : Cm (2 * M) (10 ^ 50) hlf := (show Cm 2 1 hlf from Cm.of (by decide) (by decide)).mono (Nat.dvd_mul_right _ _) (by decide)
    split
    · exact Cm.zero
    · split
      · exact hh.neg
      · split
        · exact hh
        · exact Cm.zero
  · obtain ⟨_, e⟩ := F.sum rfl
    rw [e] at hp
    obtain ⟨n, hn, rfl⟩ := List.mem_map.mp hp
    have hf := RFs.fair
    unfold Fair at hf
    rw [if_neg (by decide), if_pos rfl] at hf
    obtain ⟨i, hi, e3⟩ := List.getElem_of_mem hn
    have hps : ps.length = ms.length := hpl
    rw [e, List.length_map] at hps
    have hml : (missR ms row).length = ms.length := by unfold missR; rw [List.length_zipWith]; omega
    have z := hf (ms[i]'(by omega), ((missR ms row)[i]'(by omega), (n : Rat))) (by
      have e4 : (ms.zip ((missR ms row).zip ps))[i]'(by rw [List.length_zip, List.length_zip]; omega) = (ms[i]'(by omega), ((missR ms row)[i]'(by omega), ps[i]'(by omega))) := by rw [List.getElem_zip, List.getElem_zip]
      have e5 : ps[i]'(by omega) = (n : Rat) := by simp only [e, List.getElem_map, e3]
      rw [e5] at e4
      rw [← e4]
      exact List.getElem_mem _)
    have z1 := z.1
    have hwi := (hw _ (List.getElem_mem (show i < ms.length by omega))).2
    have hab := absR_le_iff.mp z1
    have b1 : ((n : Int) : Rat) ≤ ((ms[i]'(by omega)).2.2 : Rat) := by grind
    have b2 : (-((ms[i]'(by omega)).2.2 : Int) : Rat) ≤ (n : Rat) := by grind
    have c1 := Rat.intCast_le_intCast.mp b1
    rw [← Rat.intCast_neg] at b2
    have c2 := Rat.intCast_le_intCast.mp b2
    exact (Cm.int (B := 200) (by omega)).mono (Nat.one_dvd _) (by decide)
  · obtain ⟨_, e⟩ := F.sq rfl
    rw [e] at hp
    have z : MSz M (10 ^ 32) 200 45 32 3 ms row := ⟨by omega, M0, M1, Nat.le_refl _, by decide, fun m h => (hc m h).mono LM (by decide +kernel), hr, fun m h => by have := hw m h; omega, by decide⟩
    exact (z.wmiss p hp).mono (Nat.dvd_mul_left _ _) (by decide +kernel)
section
variable {P : Program} {w : World} {K : PySem.W.Frag} {mg : Str → Option Value} {base : Heap} {A : Adr}
theorem ok_law (T : Txt K mg A) : FnOk P w K mg base (CXE P w) 8 A.a_law A.d_law ["script"] (spLaw K) := by
  have G_law_cell := ok_law_cell (P := P) (w := w) (base := base) T
  have G_law_marks := ok_law_marks (P := P) (w := w) (base := base) T
  have G_rise_least := ok_rise_least (P := P) (w := w) (base := base) T
  have G_rise_shown := ok_rise_shown (P := P) (w := w) (base := base) T
  have G_law_spoilt := ok_law_spoilt (P := P) (w := w) (base := base) T
  have G_law_sum := ok_law_sum (P := P) (w := w) (base := base) T
  have G_law_holds := ok_law_holds (P := P) (w := w) (base := base) T
  have G_law_fair := ok_law_fair (P := P) (w := w) (base := base) T
  refine law_of (okW T.F_law sc_law (fun ds Q E h => ?_) (fun cdv Ar outer s H E hr => ?_))
  · obtain ⟨a, rfl, _⟩ := h; rfl
  refine ⟨_, (pss_cons (ps_set (i := 1) sc_law.nd rfl (Or.inl rfl) (pe_call G_law_marks (hr.mono (by decide)) rfl T.m_law_marks T.F_law_marks.kp T.b_law_marks .nil passE0 (pa_cons (pv 0) pa_nil)))
      (pss_cons (ps_set (i := 2) sc_law.nd rfl (Or.inl rfl) (pe_ix (ixlK (K := K) rfl) (pe_lst (pa_cons pe_str (pa_cons pe_str (pa_cons pe_str pa_nil)))) (pe_op op_mod (pe_call G_law_cell (hr.mono (by decide)) rfl T.m_law_cell T.F_law_cell.kp T.b_law_cell .nil passE0 (pa_cons (pv 0) (pa_cons pe_int pa_nil))) pe_int) (fun _ _ => rfl)))
      (pss_cons (ps_asg (pe_call G_rise_least (hr.mono (by decide)) rfl T.m_rise_least T.F_rise_least.kp T.b_rise_least .nil passE0 (pa_cons (pv 2) (pa_cons (pe_callTy (listK (K := K) rfl) rfl T.n_list bt_list (pa_cons (pv 1) pa_nil)) pa_nil))) (pgtK (K := K) (n := 2) rfl rfl (pgs_cons (pg_name (i := 3) sc_law.nd rfl (Or.inl rfl)) (pgs_cons (pg_name (i := 4) sc_law.nd rfl (Or.inl rfl)) pgs_nil))))
      (pss_cons (ps_for PassesOwn.leaving rfl (pi_range2 rfl T.n_range (pa_cons pe_int (pa_cons pe_int pa_nil))) (pg_name (i := 5) sc_law.nd rfl (Or.inl rfl))
        (pss_cons (ps_set (i := 6) sc_law.nd rfl (Or.inl rfl) (pe_lst (pa_cons (pv 3) (pa_cons (pv 4) pa_nil))))
      (pss_cons (ps_if (pt_cmpR op_gt (pv 5) pe_int (nomark _)) (pss_one (ps_set (i := 6) sc_law.nd rfl (Or.inl rfl) (pe_call G_law_spoilt (hr.mono (by decide)) rfl T.m_law_spoilt T.F_law_spoilt.kp T.b_law_spoilt .nil passE0 (pa_cons (pv 3) (pa_cons (pv 4) (pa_cons (pe_op op_add (pe_call G_law_cell (hr.mono (by decide)) rfl T.m_law_cell T.F_law_cell.kp T.b_law_cell .nil passE0 (pa_cons (pv 0) (pa_cons (pv 5) pa_nil))) (pe_op op_fdivB (pe_call G_law_cell (hr.mono (by decide)) rfl T.m_law_cell T.F_law_cell.kp T.b_law_cell .nil passE0 (pa_cons (pv 0) (pa_cons pe_int pa_nil))) pe_int)) pa_nil)))))) pss_nil)
      (pss_cons (ps_setLC (i := 7) (cap := [none, none]) (NC := ["mark", "one"]) sc_law.nd rfl rfl rfl ⟨rfl, rfl, by decide +kernel, by decide +kernel, trivial, (fun _ h => nomatch h), rfl⟩ (pi_zip (K := K) rfl rfl T.n_zip (pa_cons (pv 1) (pa_cons (pe_ix (ixlK (K := K) rfl) (pv 6) pe_int (fun _ _ => rfl)) pa_nil))) (fun _ _ _ _ => (pgtK (K := K) (n := 2) rfl rfl (pgs_cons (pg_name (i := 0) (show List.Nodup (["mark", "one"] : List Str) by decide) rfl (Or.inl rfl)) (pgs_cons (pg_name (i := 1) (show List.Nodup (["mark", "one"] : List Str) by decide) rfl (Or.inl rfl)) pgs_nil)))) (fun _ _ _ _ => pts_nil) (fun _ _ _ _ => (pe_call G_law_sum (hr.mono (by decide)) rfl T.m_law_sum T.F_law_sum.kp T.b_law_sum .nil passE0 (pa_cons (pe_ix (ixtK (K := K) rfl) (pv 0) pe_int (fun _ _ => rfl)) (pa_cons (pe_tup (pa_cons (pe_op op_sub pe_int (pe_ix (ixtK (K := K) rfl) (pv 1) pe_int (fun _ _ => rfl))) (pa_cons (pe_ix (ixtK (K := K) rfl) (pv 1) pe_int (fun _ _ => rfl)) pa_nil))) pa_nil)))))
      (pss_cons (ps_set (i := 8) sc_law.nd rfl (Or.inl rfl) (pe_call G_law_holds (hr.mono (by decide)) rfl T.m_law_holds T.F_law_holds.kp T.b_law_holds .nil passE0 (pa_cons (pe_ix (ixlK (K := K) rfl) (pv 6) pe_int (fun _ _ => rfl)) (pa_cons (pe_ix (ixlK (K := K) rfl) (pv 6) pe_int (fun _ _ => rfl)) pa_nil))))
      (pss_cons (ps_set (i := 9) sc_law.nd rfl (Or.inl rfl) (pe_lst (pa_cons (pe_callTy (listK (K := K) rfl) rfl T.n_list bt_list (pa_cons (pv 1) pa_nil)) (pa_cons (pe_callTy (listK (K := K) rfl) rfl T.n_list bt_list (pa_cons (pe_ix (ixlK (K := K) rfl) (pv 6) pe_int (fun _ _ => rfl)) pa_nil)) (pa_cons (pe_callTy (listK (K := K) rfl) rfl T.n_list bt_list (pa_cons (pe_ix (ixlK (K := K) rfl) (pv 6) pe_int (fun _ _ => rfl)) pa_nil)) pa_nil)))))
      (pss_cons (ps_for PassesOwn.leaving rfl (pilK (K := K) rfl (pe_lst (pa_cons pe_str (pa_cons pe_str (pa_cons pe_str pa_nil))))) (pg_name (i := 10) sc_law.nd rfl (Or.inl rfl))
        (pss_cons (ps_set (i := 11) sc_law.nd rfl (Or.inl rfl) (pe_call G_rise_shown (hr.mono (by decide)) rfl T.m_rise_shown T.F_rise_shown.kp T.b_rise_shown .nil passE0 (pa_cons (pv 10) (pa_cons (pe_ix (ixlK (K := K) rfl) (pv 9) pe_int (fun _ _ => rfl)) (pa_cons (pe_ix (ixlK (K := K) rfl) (pv 9) pe_int (fun _ _ => rfl)) (pa_cons (pe_ix (ixlK (K := K) rfl) (pv 9) pe_int (fun _ _ => rfl)) pa_nil))))))
      (pss_cons (ps_set (i := 12) sc_law.nd rfl (Or.inl rfl) (pe_and (pv 8) (pe_one (pe_call G_law_fair (hr.mono (by decide)) rfl T.m_law_fair T.F_law_fair.kp T.b_law_fair .nil passE0 (pa_cons (pv 10) (pa_cons (pv 1) (pa_cons (pv 7) (pa_cons (pe_ix (ixlK (K := K) rfl) (pv 6) pe_int (fun _ _ => rfl)) pa_nil))))))))
      (pss_one (ps_if (PW.pt (pw_or (pt_not (pt_val (pe_callB (isiDK (K := K) rfl) rfl T.n_isinstance bt_isinstance (pa_cons (pv 11) (pa_cons (pe_bltn rfl T.n_bool bt_bool (show RelV (.ty "bool") (.type "bool") from rfl)) pa_nil))))) (pw_or (pt_cmpR op_ne (pv 11) (pv 12) (nomark _)) (pw_or1 (PW.pt (pw_and (pt_cmpR op_eq (pv 5) pe_int (nomark _)) (pw_and (pt_cmpR op_eq (pv 10) (pv 2) (nomark _)) (pw_and1 (pt_not (pt_val (pv 11))))))))))) (pss_one (ps_ret pe_bl)) pss_nil)))))
      (pss_one (ps_if (pt_cmpR (neK (K := K) rfl hr.units) (pv 9) (pe_op (catSK (K := K) rfl) (pe_lst (pa_cons (pv 1) pa_nil)) (pv 6)) (nomark _)) (pss_one (ps_ret pe_bl)) pss_nil)))))))))
      (pss_one (ps_ret pe_bl)))))), _, (sv_seq (sv_setO 1 (ov_call0 (av_cons (bv_var 0) av_nil)))
      (sv_seq (sv_asg (ev_ixl (lv_ov (ov_lst (ae_cons ev_str (ae_cons ev_str (ae_cons ev_str ae_nil))) (by decide))) (bv_ev (ev_mdk (k := 3) (by decide) (bv_ev (ev_call0 (av_cons (bv_var 0) (av_cons (bv_ev ev_int) av_nil)))) ev_int))) (gv_name 2))
      (sv_seq (sv_set20 3 4 (by decide) (av_cons (bv_var 2) (av_cons (bv_ev (ev_ov (ov_list (lv_var 1)))) av_nil)))
      (sv_seq (sv_frz 4 (sv_frz 3 (sv_frz 1 (sv_for (is_rng2 (av_cons (bv_ev ev_int) (av_cons (bv_ev ev_int) av_nil))) (gv_name 5)
        (sv_seq (sv_setO 6 (ov_lst (ae_cons (ev_var 3) (ae_cons (ev_var 4) ae_nil)) (by decide)))
      (sv_cut (sv_frz 6 (sv_if (tv_test (bv_ev (ev_op ro_b0 (bv_var 5) (bv_ev ev_int)))) (sv_asgN0 (av_cons (bv_var 3) (av_cons (bv_var 4) (av_cons (bv_ev (ev_op ro_i0 (bv_ev (ev_call0 (av_cons (bv_var 0) (av_cons (bv_var 5) av_nil)))) (bv_ev (ev_dvk (k := 3) (cdiv (by decide +kernel)) (bv_ev (ev_call0 (av_cons (bv_var 0) (av_cons (bv_ev ev_int) av_nil)))) ev_int)))) av_nil))) (gv_name 6)) sv_next))
      (sv_seq (sv_setO 7 (ov_lc (ie_zip (lv_var 1) (lv_ev (ev_ixl (lv_var 6) (bv_ev ev_int)))) (gv_tup (gs_cons (gv_name 0) (gs_cons (gv_name 1) gs_nil))) tv_yes (ev_call0 (av_cons (bv_ev (ev_ixk 1 (ev_var 0))) (av_cons (bv_ev (ev_tup (ae_cons (ev_op ro_i0 (bv_ev ev_int) (bv_ev (ev_ixk 0 (ev_var 1)))) (ae_cons (ev_ixk 1 (ev_var 1)) ae_nil)) (by decide))) av_nil))) (by decide) (by decide)))
      (sv_seq (sv_asg (ev_call0 (av_cons (bv_ev (ev_ixl (lv_var 6) (bv_ev ev_int))) (av_cons (bv_ev (ev_ixl (lv_var 6) (bv_ev ev_int))) av_nil))) (gv_name 8))
      (sv_seq (sv_setO 9 (ov_lst (ae_cons (ev_ov (ov_list (lv_var 1))) (ae_cons (ev_ov (ov_list (lv_ev (ev_ixl (lv_var 6) (bv_ev ev_int))))) (ae_cons (ev_ov (ov_list (lv_ev (ev_ixl (lv_var 6) (bv_ev ev_int))))) ae_nil))) (by decide)))
      (sv_seq (sv_for (is_list (ev_ov (ov_lst (ae_cons ev_str (ae_cons ev_str (ae_cons ev_str ae_nil))) (by decide)))) (gv_name 10)
        (sv_seq (sv_asg (ev_call0 (av_cons (bv_var 10) (av_cons (bv_ev (ev_ixl (lv_var 9) (bv_ev ev_int))) (av_cons (bv_ev (ev_ixl (lv_var 9) (bv_ev ev_int))) (av_cons (bv_ev (ev_ixl (lv_var 9) (bv_ev ev_int))) av_nil))))) (gv_name 11))
      (sv_seq (sv_asg (ev_and (bv_var 8) (ev_call0 (av_cons (bv_var 10) (av_cons (bv_var 1) (av_cons (bv_var 7) (av_cons (bv_ev (ev_ixl (lv_var 6) (bv_ev ev_int))) av_nil)))))) (gv_name 12))
      (sv_if (tv_or (tv_not (tv_b (bv_ev (ev_isi (by decide) (bv_var 11))))) (tv_or (tv_test (bv_ev (ev_op ro_ne (bv_var 11) (bv_var 12)))) (tv_and (tv_test (bv_ev (ev_op ro_eq (bv_var 5) (bv_ev ev_int)))) (tv_and (tv_test (bv_ev (ev_op ro_eq (bv_var 10) (bv_var 2)))) (tv_not (tv_b (bv_var 11))))))) (sv_ret (bv_ev ev_bl)) sv_next))))
      (sv_frzE 9 (sv_frzE 7 (sv_if (tv_test (bv_ev (ev_op ro_neD (bv_var 9) (bv_ev (ev_ov (ov_catE (ev_ov (ov_lst (ae_cons (ev_var 1) ae_nil) (by decide))) (ev_var 6))))))) (sv_ret (bv_ev ev_bl)) sv_next)))))))))))))
      (sv_ret (bv_ev ev_bl)))))), ?_⟩
  rintro ds Q X ⟨ns, rfl, hlen, hbits, k⟩
  walk_at "s"
  refine ⟨ns, rfl, hlen, hbits, fun ms bt Z => ?_⟩
  have b1 := Z.b1
  have b2 := Z.b2
  have n1 := Z.n1
  have n12 := Z.n12
  obtain ⟨L, hL, L0, L1⟩ : ∃ L : Nat, bt.toNat = L ∧ 0 < L ∧ L ≤ 12 := ⟨_, rfl, by omega, by omega⟩
  have hc : ∀ m ∈ ms, Cm L (10 ^ 31) m.2.1 := fun m h => by rw [← hL]; exact (Z.h m h).mono (Nat.dvd_refl _) (by decide +kernel)
  have hw := Z.w
  have hw1 : ∀ m ∈ ms, 1 ≤ m.2.2 := fun m h => (hw m h).1
  have hp : ∀ m ∈ ms, Ok m.1 := fun m h => by
    obtain ⟨ip, ep, hip⟩ := Z.p m h
    rw [ep]
    exact ⟨weeLe (n := 100) (show ip.natAbs ≤ 100 from hip) (by decide +kernel), show Wee ((1 : Nat) : Int) from wee (by decide +kernel)⟩
  have hne : ms ≠ [] := List.length_pos_iff.mp n1
  walk_at "d"
  refine ⟨mks_flat _, ?_⟩
  walk_at "s"
  refine ⟨ns, 2, rfl, by decide, by decide, ?_⟩
  walk_at "d"
  obtain ⟨kd, hkd, ak⟩ : ∃ kd : Str, kd ∈ kdsL ∧ atI [PyData.str "far", PyData.str "sum", PyData.str "square"] (cellF ns 2 % 3) = some (.str kd) := by
    obtain ⟨d, hd, e⟩ := atI_some (xs := [PyData.str "far", PyData.str "sum", PyData.str "square"]) (i := cellF ns 2 % 3) (by omega) (by show _ < (3 : Int); omega)
    simp only [List.mem_cons, List.not_mem_nil, or_false] at hd
    rcases hd with rfl | rfl | rfl
    · exact ⟨_, by simp [kdsL], e⟩
    · exact ⟨_, by simp [kdsL], e⟩
    · exact ⟨_, by simp [kdsL], e⟩
  refine ⟨_, ak, ?_⟩
  clear ak
  walk_at "s"
  refine ⟨.str kd, ms, L, rfl, fun k' e => by cases e; exact kds_ok hkd, n1, by omega, L0, Nat.le_trans L1 (by decide +kernel), hc, fun m h => by have := hw m h; exact ⟨this.1, by omega⟩, hp, fun kd' e _ row ps F => ?_, fun h => absurd hkd (h kd rfl)⟩
  cases e
  have RFs := rise_rf hkd hw1 F
  obtain ⟨M, M0, M1, LM, hr, hpz⟩ := pull_szs hkd n12 L0 L1 hc hw F
  have sr : SpS ms.length M (10 ^ 50) row := ⟨RFs.len, hr⟩
  have sp : SpS ms.length M (10 ^ 50) ps := ⟨RFs.plen, hpz⟩
  walk_at "d"
  refine ⟨frs_flat _, frs_flat _, ?_⟩
  refine seq_mk ?_
  walk_at "d"
  refine for_rng (lo := 2) (st := 1) (n := 5) (fun Q h => by
      walk_at "d"
      exact ⟨by decide, h⟩)
    (fun i δ => ∃ o5 o6 o7 o8 o9 o10 o11 o12 : Option PyData, δ = [some (.dat (.list (ns.map .int))), some (.dat (.list (ms.map mk3))), some (.dat (.str kd)), some (.dat (.list (row.map fr))), some (.dat (.list (ps.map fr))), o5.map Sl.dat, o6.map Sl.dat, o7.map Sl.dat, o8.map Sl.dat, o9.map Sl.dat, o10.map Sl.dat, o11.map Sl.dat, o12.map Sl.dat])
    ⟨none, none, none, none, none, none, none, none, rfl⟩ ?_ ?_
  · rintro i δ hi ⟨o5, o6, o7, o8, o9, o10, o11, o12, rfl⟩
    obtain ⟨kk, hk⟩ : ∃ kk : Int, (2 : Int) + (i : Int) * 1 = kk := ⟨_, rfl⟩
    rw [hk]
    have hk1 : 2 ≤ kk ∧ kk ≤ 6 := by omega
    clear hk hi
    walk_at "s"
    refine cut_mk (fun δ => ∃ r p : List Rat, δ = [some (.dat (.list (ns.map .int))), some (.dat (.list (ms.map mk3))), some (.dat (.str kd)), some (.dat (.list (row.map fr))), some (.dat (.list (ps.map fr))), some (.dat (.int kk)), some (.dat (.list [.list (r.map fr), .list (p.map fr)])), o7.map Sl.dat, o8.map Sl.dat, o9.map Sl.dat, o10.map Sl.dat, o11.map Sl.dat, o12.map Sl.dat] ∧ SpS ms.length (12 * M) (10 ^ 54) r ∧ SpS ms.length (12 * M) (10 ^ 54) p ∧ (kk = 2 → r = row ∧ p = ps)) ?_ ?_
    · walk_at "d"
      refine ite2 (fun c => ?_) (fun c => ⟨row, ps, rfl, sr.mono (Nat.dvd_mul_left _ _) (by decide), sp.mono (Nat.dvd_mul_left _ _) (by decide), fun _ => ⟨rfl, rfl⟩⟩)
      refine ⟨ns, kk, rfl, by omega, by omega, ?_⟩
      walk_at "d"
      refine ⟨ns, 2, rfl, by decide, by decide, ?_⟩
      walk_at "d"
      refine ⟨row, ps, _, ms.length, M, rfl, n1, n12, M0, M1, sr, sp, fun r p zr zp => ?_⟩
      walk_at "d"
      exact ⟨r, p, rfl, zr, zp, fun h => absurd h (by omega)⟩
    rintro δ ⟨r, p, rfl, zr, zp, h2⟩
    have lr := zr.len
    have lp := zp.len
    have L12 : 0 < 12 * M ∧ 12 * M ≤ 10 ^ 48 := by omega
    have LD : L ∣ 12 * M := Nat.dvd_trans LM (Nat.dvd_mul_left _ _)
    have yr : PSz (12 * M) (10 ^ 54) 48 54 r := ⟨by omega, L12.1, L12.2, Nat.le_refl _, zr.h, by decide⟩
    have yp : PSz (12 * M) (10 ^ 54) 48 54 p := ⟨by omega, L12.1, L12.2, Nat.le_refl _, zp.h, by decide⟩
    have mz : MSz (12 * M) (10 ^ 54) 200 48 54 3 ms r := ⟨by omega, L12.1, L12.2, Nat.le_refl _, by decide, fun m h => (hc m h).mono LD (by decide +kernel), zr.h, fun m h => by have := hw m h; omega, by decide⟩
    have rdg : ∀ q ∈ r, Dg 103 q := fun q hq => (zr.h q hq).dg L12.1 L12.2 (b := 54) (Nat.le_refl _)
    have hdg : ∀ m ∈ ms, Dg 34 m.2.1 := fun m h => (hc m h).dg L0 (l := 2) (by omega) (b := 31) (Nat.le_refl _)
    walk_at "s"
    refine lc_map (fun z : Mk × Rat => PyData.tuple [mk3 z.1, fr z.2]) fr (fun z : Mk × Rat => [z.1.2.1 - z.2]) (ms.zip r) (by rw [List.length_zip]; omega) (fun Q h => by
      walk_at "d"
      refine ⟨_, rfl, ?_⟩
      dsimp only
      rw [pairD_map]; exact h) (fun z hz N acc hN => ?_) ?_
    · have hz1 := (List.of_mem_zip hz).1
      have hz2 := (List.of_mem_zip hz).2
      have gd := rdg _ hz2
      have dq := Fm.den_pos z.2
      walk_at "d"
      refine sum_fp (u := 0 - z.2.num) (c := (z.2.den : Int)) (m := 103) (hdg _ hz1) (by omega) (by have := gd.n; omega) (by have := gd.d; omega) (by decide) ?_
      rw [neg_div, ← Rat.sub_eq_add_neg]
      walk_at "d"
      exact hN
    rw [flat_single]
    have em : (ms.zip r).map (fun z : Mk × Rat => z.1.2.1 - z.2) = missR ms r := by unfold missR; exact zip_map (fun (m : Mk) h => m.2.1 - h) ms r
    rw [em]
    have lm : (missR ms r).length = ms.length := by rw [← em, List.length_map, List.length_zip]; omega
    have yx : PSz (12 * M) (10 ^ 54 + 10 ^ 54) 48 55 (missR ms r) := ⟨by omega, L12.1, L12.2, by decide +kernel, mz.miss, by decide⟩
    walk_at "s"
    refine ⟨_, rfl, _, rfl, ?_⟩
    refine ⟨r, p, 12 * M, 10 ^ 54, 48, 54, rfl, yp, by decide, by omega, fun q hq => dgOk (rdg q hq) (by decide), fun v hv => ?_⟩
    walk_at "s"
    refine ⟨_, rfl, _, rfl, ?_⟩
    walk_at "d"
    refine seq_mk (for_map PyData.str (["square", "far", "sum"] : List Str) (fun Q h => by walk_at "d"; exact h)
      (fun i δ => ∃ o10 o11 o12 : Option PyData, δ = [some (.dat (.list (ns.map .int))), some (.dat (.list (ms.map mk3))), some (.dat (.str kd)), some (.dat (.list (row.map fr))), some (.dat (.list (ps.map fr))), some (.dat (.int kk)), some (.dat (.list [.list (r.map fr), .list (p.map fr)])), some (.own ((missR ms r).map fr)), some (.dat (.bool v)), some (.own [.list (ms.map mk3), .list (r.map fr), .list (p.map fr)]), o10.map Sl.dat, o11.map Sl.dat, o12.map Sl.dat])
      ⟨_, _, _, rfl⟩ ?_ ?_)
    · rintro j kd' δ hj ⟨o10, o11, o12, rfl⟩
      have hk' : kd' ∈ kdsL := by
        have := List.mem_of_getElem? hj
        simp only [List.mem_cons, List.not_mem_nil, or_false] at this
        rcases this with rfl | rfl | rfl <;> simp [kdsL]
      walk_at "s"
      refine ⟨_, rfl, _, rfl, _, rfl, ?_⟩
      refine ⟨.str kd', ms, r, p, 12 * M, 10 ^ 54, 200, 48, 54, 3, 12 * M, 10 ^ 54, 48, 54, rfl, mz, yp, hne, lr, lp, fun k2 e => by cases e; exact kds_ok hk', by decide, fun k2 e hk2 f hf => ?_, fun h => absurd hk' (h kd' rfl)⟩
      cases e
      have mineOk : kk = 2 → kd' = kd → f = true := fun e2 e3 => by
        obtain ⟨e4, e5⟩ := h2 e2
        rw [hf, e4, e5, e3]
        have H := RFs.hold
        refine ⟨RFs.fair, H.up, fun j hj => ⟨H.nn j hj, fun he => ?_⟩⟩
        refine Rat.le_antisymm (Rat.not_lt.mp fun z => ?_) (H.nn j hj)
        obtain ⟨z1, z2⟩ := H.zr j hj z
        rcases he with he | he
        · omega
        · exact he z2
      walk_at "s"
      cases v with
      | false =>
        have ef : f = false := by
          cases f with
          | false => rfl
          | true => exact absurd (hv.mpr (hf.mp rfl).2) (by decide)
        subst ef
        rw [if_neg (by decide)]
        walk_at "d"
        rw [if_neg (by decide)]
        exact ite2 (fun c1 => ite2 (fun c2 => absurd (mineOk c1 c2) (by decide)) (fun _ => ⟨some _, some _, some _, rfl⟩)) (fun _ => ⟨some _, some _, some _, rfl⟩)
      | true =>
        rw [if_pos rfl]
        refine ⟨_, rfl, kd', ms, missR ms r, p, 12 * M, 10 ^ 54, 48, 54, 12 * M, 10 ^ 54 + 10 ^ 54, 48, 55, rfl, hk', yp, by decide, yx, by decide, lm, lp, hw, fun u hu => ?_⟩
        have eu : u = f := by
          have h3 : u = true ↔ f = true := by
            rw [hu, hf]
            constructor
            · intro h; exact ⟨h, hv.mp rfl⟩
            · intro h; exact h.1
          cases u <;> cases f <;> simp_all
        subst eu
        cases u with
        | true =>
          walk_at "d"
          rw [if_neg (by decide)]
          exact ite2 (fun c1 => ite2 (fun c2 => ⟨some _, some _, some _, rfl⟩) (fun _ => ⟨some _, some _, some _, rfl⟩)) (fun _ => ⟨some _, some _, some _, rfl⟩)
        | false =>
          walk_at "d"
          rw [if_neg (by decide)]
          exact ite2 (fun c1 => ite2 (fun c2 => absurd (mineOk c1 c2) (by decide)) (fun _ => ⟨some _, some _, some _, rfl⟩)) (fun _ => ⟨some _, some _, some _, rfl⟩)
    rintro δ ⟨o10, o11, o12, rfl⟩
    dsimp only
    walk_at "d"
    refine ⟨_, _, rfl, rfl, (show 1 + 2 ≤ 1000 by decide), ?_⟩
    refine ⟨_, eL3 (eList eMark (by decide)) (eList eRat (by decide)) (eList eRat (by decide)) (by decide) (by decide) (by decide), (ms, r, p), (ms, r, p), rfl, rfl, fun v' hv' => ?_⟩
    rw [hv'.mpr rfl]
    walk_at "d"
    exact ⟨some _, some _, some _, some _, some _, o10, o11, o12, rfl⟩
  rintro δ ⟨o5, o6, o7, o8, o9, o10, o11, o12, rfl⟩
  walk_at "d"
  exact k
end
theorem all_mk {l : PySem.W.OpenLaw} {w : World} {K : PySem.W.Frag} {h : Heap} {mg : Str → Option Value} {fa f_common_divisor f_fraction f_plus f_minus f_product f_quotient f_is_less f_size_of f_total_of f_greatest_of f_least_of f_height_at f_row_of f_misses_of f_check_kind f_weighed_misses f_is_fair f_is_fair_far f_has_sign_of f_is_fair_sum f_least_level f_middle_of f_in_order f_level_sum f_early_pulls f_rises f_holds_up f_rise_least f_pooled f_rise_far f_peaks_of f_rise_shown f_law_cell f_law_low f_law_sum f_law_less f_law_marks f_law_spoilt f_law_holds f_law_fair f_law x_NoNumber x_NoKind g_KINDS g_NOUGHT : Addr} (X : K.In h) (G : h.Ns mainGlobals mg) (hfa : mg "law" = some (.ref fa))
    {od0 an0 : Option Addr} {sl0 : Array (Option Value)} {oc0 kV0 dc0 pm0 cd0 ct0 : Value}
    {od1 an1 : Option Addr} {sl1 : Array (Option Value)} {oc1 kV1 dc1 pm1 cd1 ct1 : Value}
    {od2 an2 : Option Addr} {sl2 : Array (Option Value)} {oc2 kV2 dc2 pm2 cd2 ct2 : Value}
    {od3 an3 : Option Addr} {sl3 : Array (Option Value)} {oc3 kV3 dc3 pm3 cd3 ct3 : Value}
    {od4 an4 : Option Addr} {sl4 : Array (Option Value)} {oc4 kV4 dc4 pm4 cd4 ct4 : Value}
    {od5 an5 : Option Addr} {sl5 : Array (Option Value)} {oc5 kV5 dc5 pm5 cd5 ct5 : Value}
    {od6 an6 : Option Addr} {sl6 : Array (Option Value)} {oc6 kV6 dc6 pm6 cd6 ct6 : Value}
    {od7 an7 : Option Addr} {sl7 : Array (Option Value)} {oc7 kV7 dc7 pm7 cd7 ct7 : Value}
    {od8 an8 : Option Addr} {sl8 : Array (Option Value)} {oc8 kV8 dc8 pm8 cd8 ct8 : Value}
    {od9 an9 : Option Addr} {sl9 : Array (Option Value)} {oc9 kV9 dc9 pm9 cd9 ct9 : Value}
    {od10 an10 : Option Addr} {sl10 : Array (Option Value)} {oc10 kV10 dc10 pm10 cd10 ct10 : Value}
    {od11 an11 : Option Addr} {sl11 : Array (Option Value)} {oc11 kV11 dc11 pm11 cd11 ct11 : Value}
    {od12 an12 : Option Addr} {sl12 : Array (Option Value)} {oc12 kV12 dc12 pm12 cd12 ct12 : Value}
    {od13 an13 : Option Addr} {sl13 : Array (Option Value)} {oc13 kV13 dc13 pm13 cd13 ct13 : Value}
    {od14 an14 : Option Addr} {sl14 : Array (Option Value)} {oc14 kV14 dc14 pm14 cd14 ct14 : Value}
    {od15 an15 : Option Addr} {sl15 : Array (Option Value)} {oc15 kV15 dc15 pm15 cd15 ct15 : Value}
    {od16 an16 : Option Addr} {sl16 : Array (Option Value)} {oc16 kV16 dc16 pm16 cd16 ct16 : Value}
    {od17 an17 : Option Addr} {sl17 : Array (Option Value)} {oc17 kV17 dc17 pm17 cd17 ct17 : Value}
    {od18 an18 : Option Addr} {sl18 : Array (Option Value)} {oc18 kV18 dc18 pm18 cd18 ct18 : Value}
    {od19 an19 : Option Addr} {sl19 : Array (Option Value)} {oc19 kV19 dc19 pm19 cd19 ct19 : Value}
    {od20 an20 : Option Addr} {sl20 : Array (Option Value)} {oc20 kV20 dc20 pm20 cd20 ct20 : Value}
    {od21 an21 : Option Addr} {sl21 : Array (Option Value)} {oc21 kV21 dc21 pm21 cd21 ct21 : Value}
    {od22 an22 : Option Addr} {sl22 : Array (Option Value)} {oc22 kV22 dc22 pm22 cd22 ct22 : Value}
    {od23 an23 : Option Addr} {sl23 : Array (Option Value)} {oc23 kV23 dc23 pm23 cd23 ct23 : Value}
    {od24 an24 : Option Addr} {sl24 : Array (Option Value)} {oc24 kV24 dc24 pm24 cd24 ct24 : Value}
    {od25 an25 : Option Addr} {sl25 : Array (Option Value)} {oc25 kV25 dc25 pm25 cd25 ct25 : Value}
    {od26 an26 : Option Addr} {sl26 : Array (Option Value)} {oc26 kV26 dc26 pm26 cd26 ct26 : Value}
    {od27 an27 : Option Addr} {sl27 : Array (Option Value)} {oc27 kV27 dc27 pm27 cd27 ct27 : Value}
    {od28 an28 : Option Addr} {sl28 : Array (Option Value)} {oc28 kV28 dc28 pm28 cd28 ct28 : Value}
    {od29 an29 : Option Addr} {sl29 : Array (Option Value)} {oc29 kV29 dc29 pm29 cd29 ct29 : Value}
    {od30 an30 : Option Addr} {sl30 : Array (Option Value)} {oc30 kV30 dc30 pm30 cd30 ct30 : Value}
    {od31 an31 : Option Addr} {sl31 : Array (Option Value)} {oc31 kV31 dc31 pm31 cd31 ct31 : Value}
    {od32 an32 : Option Addr} {sl32 : Array (Option Value)} {oc32 kV32 dc32 pm32 cd32 ct32 : Value}
    {od33 an33 : Option Addr} {sl33 : Array (Option Value)} {oc33 kV33 dc33 pm33 cd33 ct33 : Value}
    {od34 an34 : Option Addr} {sl34 : Array (Option Value)} {oc34 kV34 dc34 pm34 cd34 ct34 : Value}
    {od35 an35 : Option Addr} {sl35 : Array (Option Value)} {oc35 kV35 dc35 pm35 cd35 ct35 : Value}
    {od36 an36 : Option Addr} {sl36 : Array (Option Value)} {oc36 kV36 dc36 pm36 cd36 ct36 : Value}
    {od37 an37 : Option Addr} {sl37 : Array (Option Value)} {oc37 kV37 dc37 pm37 cd37 ct37 : Value}
    {od38 an38 : Option Addr} {sl38 : Array (Option Value)} {oc38 kV38 dc38 pm38 cd38 ct38 : Value}
    {od39 an39 : Option Addr} {sl39 : Array (Option Value)} {oc39 kV39 dc39 pm39 cd39 ct39 : Value}
    {od40 an40 : Option Addr} {sl40 : Array (Option Value)} {oc40 kV40 dc40 pm40 cd40 ct40 : Value}
    (a0 : PySem.W.nsIn K mainGlobals "common_divisor" = some (some (.ref f_common_divisor))) (l0 : K.lookup f_common_divisor = some ⟨oc0, od0, .func (PySem.W.fnOf "common_divisor" "common_divisor" (defArgs s_common_divisor) (defBody s_common_divisor) (defScope s_common_divisor) .none kV0 dc0 pm0 an0 cd0 ct0), sl0⟩) (c0 : PySem.W.codeIn K cd0 "common_divisor" = true) (k0 : PySem.W.keepIn K (.ref f_common_divisor) = true)
    (a1 : PySem.W.nsIn K mainGlobals "fraction" = some (some (.ref f_fraction))) (l1 : K.lookup f_fraction = some ⟨oc1, od1, .func (PySem.W.fnOf "fraction" "fraction" (defArgs s_fraction) (defBody s_fraction) (defScope s_fraction) .none kV1 dc1 pm1 an1 cd1 ct1), sl1⟩) (c1 : PySem.W.codeIn K cd1 "fraction" = true) (k1 : PySem.W.keepIn K (.ref f_fraction) = true)
    (a2 : PySem.W.nsIn K mainGlobals "plus" = some (some (.ref f_plus))) (l2 : K.lookup f_plus = some ⟨oc2, od2, .func (PySem.W.fnOf "plus" "plus" (defArgs s_plus) (defBody s_plus) (defScope s_plus) .none kV2 dc2 pm2 an2 cd2 ct2), sl2⟩) (c2 : PySem.W.codeIn K cd2 "plus" = true) (k2 : PySem.W.keepIn K (.ref f_plus) = true)
    (a3 : PySem.W.nsIn K mainGlobals "minus" = some (some (.ref f_minus))) (l3 : K.lookup f_minus = some ⟨oc3, od3, .func (PySem.W.fnOf "minus" "minus" (defArgs s_minus) (defBody s_minus) (defScope s_minus) .none kV3 dc3 pm3 an3 cd3 ct3), sl3⟩) (c3 : PySem.W.codeIn K cd3 "minus" = true) (k3 : PySem.W.keepIn K (.ref f_minus) = true)
    (a4 : PySem.W.nsIn K mainGlobals "product" = some (some (.ref f_product))) (l4 : K.lookup f_product = some ⟨oc4, od4, .func (PySem.W.fnOf "product" "product" (defArgs s_product) (defBody s_product) (defScope s_product) .none kV4 dc4 pm4 an4 cd4 ct4), sl4⟩) (c4 : PySem.W.codeIn K cd4 "product" = true) (k4 : PySem.W.keepIn K (.ref f_product) = true)
    (a5 : PySem.W.nsIn K mainGlobals "quotient" = some (some (.ref f_quotient))) (l5 : K.lookup f_quotient = some ⟨oc5, od5, .func (PySem.W.fnOf "quotient" "quotient" (defArgs s_quotient) (defBody s_quotient) (defScope s_quotient) .none kV5 dc5 pm5 an5 cd5 ct5), sl5⟩) (c5 : PySem.W.codeIn K cd5 "quotient" = true) (k5 : PySem.W.keepIn K (.ref f_quotient) = true)
    (a6 : PySem.W.nsIn K mainGlobals "is_less" = some (some (.ref f_is_less))) (l6 : K.lookup f_is_less = some ⟨oc6, od6, .func (PySem.W.fnOf "is_less" "is_less" (defArgs s_is_less) (defBody s_is_less) (defScope s_is_less) .none kV6 dc6 pm6 an6 cd6 ct6), sl6⟩) (c6 : PySem.W.codeIn K cd6 "is_less" = true) (k6 : PySem.W.keepIn K (.ref f_is_less) = true)
    (a7 : PySem.W.nsIn K mainGlobals "size_of" = some (some (.ref f_size_of))) (l7 : K.lookup f_size_of = some ⟨oc7, od7, .func (PySem.W.fnOf "size_of" "size_of" (defArgs s_size_of) (defBody s_size_of) (defScope s_size_of) .none kV7 dc7 pm7 an7 cd7 ct7), sl7⟩) (c7 : PySem.W.codeIn K cd7 "size_of" = true) (k7 : PySem.W.keepIn K (.ref f_size_of) = true)
    (a8 : PySem.W.nsIn K mainGlobals "total_of" = some (some (.ref f_total_of))) (l8 : K.lookup f_total_of = some ⟨oc8, od8, .func (PySem.W.fnOf "total_of" "total_of" (defArgs s_total_of) (defBody s_total_of) (defScope s_total_of) .none kV8 dc8 pm8 an8 cd8 ct8), sl8⟩) (c8 : PySem.W.codeIn K cd8 "total_of" = true) (k8 : PySem.W.keepIn K (.ref f_total_of) = true)
    (a9 : PySem.W.nsIn K mainGlobals "greatest_of" = some (some (.ref f_greatest_of))) (l9 : K.lookup f_greatest_of = some ⟨oc9, od9, .func (PySem.W.fnOf "greatest_of" "greatest_of" (defArgs s_greatest_of) (defBody s_greatest_of) (defScope s_greatest_of) .none kV9 dc9 pm9 an9 cd9 ct9), sl9⟩) (c9 : PySem.W.codeIn K cd9 "greatest_of" = true) (k9 : PySem.W.keepIn K (.ref f_greatest_of) = true)
    (a10 : PySem.W.nsIn K mainGlobals "least_of" = some (some (.ref f_least_of))) (l10 : K.lookup f_least_of = some ⟨oc10, od10, .func (PySem.W.fnOf "least_of" "least_of" (defArgs s_least_of) (defBody s_least_of) (defScope s_least_of) .none kV10 dc10 pm10 an10 cd10 ct10), sl10⟩) (c10 : PySem.W.codeIn K cd10 "least_of" = true) (k10 : PySem.W.keepIn K (.ref f_least_of) = true)
    (a11 : PySem.W.nsIn K mainGlobals "height_at" = some (some (.ref f_height_at))) (l11 : K.lookup f_height_at = some ⟨oc11, od11, .func (PySem.W.fnOf "height_at" "height_at" (defArgs s_height_at) (defBody s_height_at) (defScope s_height_at) .none kV11 dc11 pm11 an11 cd11 ct11), sl11⟩) (c11 : PySem.W.codeIn K cd11 "height_at" = true) (k11 : PySem.W.keepIn K (.ref f_height_at) = true)
    (a12 : PySem.W.nsIn K mainGlobals "row_of" = some (some (.ref f_row_of))) (l12 : K.lookup f_row_of = some ⟨oc12, od12, .func (PySem.W.fnOf "row_of" "row_of" (defArgs s_row_of) (defBody s_row_of) (defScope s_row_of) .none kV12 dc12 pm12 an12 cd12 ct12), sl12⟩) (c12 : PySem.W.codeIn K cd12 "row_of" = true) (k12 : PySem.W.keepIn K (.ref f_row_of) = true)
    (a13 : PySem.W.nsIn K mainGlobals "misses_of" = some (some (.ref f_misses_of))) (l13 : K.lookup f_misses_of = some ⟨oc13, od13, .func (PySem.W.fnOf "misses_of" "misses_of" (defArgs s_misses_of) (defBody s_misses_of) (defScope s_misses_of) .none kV13 dc13 pm13 an13 cd13 ct13), sl13⟩) (c13 : PySem.W.codeIn K cd13 "misses_of" = true) (k13 : PySem.W.keepIn K (.ref f_misses_of) = true)
    (a14 : PySem.W.nsIn K mainGlobals "check_kind" = some (some (.ref f_check_kind))) (l14 : K.lookup f_check_kind = some ⟨oc14, od14, .func (PySem.W.fnOf "check_kind" "check_kind" (defArgs s_check_kind) (defBody s_check_kind) (defScope s_check_kind) .none kV14 dc14 pm14 an14 cd14 ct14), sl14⟩) (c14 : PySem.W.codeIn K cd14 "check_kind" = true) (k14 : PySem.W.keepIn K (.ref f_check_kind) = true)
    (a15 : PySem.W.nsIn K mainGlobals "weighed_misses" = some (some (.ref f_weighed_misses))) (l15 : K.lookup f_weighed_misses = some ⟨oc15, od15, .func (PySem.W.fnOf "weighed_misses" "weighed_misses" (defArgs s_weighed_misses) (defBody s_weighed_misses) (defScope s_weighed_misses) .none kV15 dc15 pm15 an15 cd15 ct15), sl15⟩) (c15 : PySem.W.codeIn K cd15 "weighed_misses" = true) (k15 : PySem.W.keepIn K (.ref f_weighed_misses) = true)
    (a16 : PySem.W.nsIn K mainGlobals "is_fair" = some (some (.ref f_is_fair))) (l16 : K.lookup f_is_fair = some ⟨oc16, od16, .func (PySem.W.fnOf "is_fair" "is_fair" (defArgs s_is_fair) (defBody s_is_fair) (defScope s_is_fair) .none kV16 dc16 pm16 an16 cd16 ct16), sl16⟩) (c16 : PySem.W.codeIn K cd16 "is_fair" = true) (k16 : PySem.W.keepIn K (.ref f_is_fair) = true)
    (a17 : PySem.W.nsIn K mainGlobals "is_fair_far" = some (some (.ref f_is_fair_far))) (l17 : K.lookup f_is_fair_far = some ⟨oc17, od17, .func (PySem.W.fnOf "is_fair_far" "is_fair_far" (defArgs s_is_fair_far) (defBody s_is_fair_far) (defScope s_is_fair_far) .none kV17 dc17 pm17 an17 cd17 ct17), sl17⟩) (c17 : PySem.W.codeIn K cd17 "is_fair_far" = true) (k17 : PySem.W.keepIn K (.ref f_is_fair_far) = true)
    (a18 : PySem.W.nsIn K mainGlobals "has_sign_of" = some (some (.ref f_has_sign_of))) (l18 : K.lookup f_has_sign_of = some ⟨oc18, od18, .func (PySem.W.fnOf "has_sign_of" "has_sign_of" (defArgs s_has_sign_of) (defBody s_has_sign_of) (defScope s_has_sign_of) .none kV18 dc18 pm18 an18 cd18 ct18), sl18⟩) (c18 : PySem.W.codeIn K cd18 "has_sign_of" = true) (k18 : PySem.W.keepIn K (.ref f_has_sign_of) = true)
    (a19 : PySem.W.nsIn K mainGlobals "is_fair_sum" = some (some (.ref f_is_fair_sum))) (l19 : K.lookup f_is_fair_sum = some ⟨oc19, od19, .func (PySem.W.fnOf "is_fair_sum" "is_fair_sum" (defArgs s_is_fair_sum) (defBody s_is_fair_sum) (defScope s_is_fair_sum) .none kV19 dc19 pm19 an19 cd19 ct19), sl19⟩) (c19 : PySem.W.codeIn K cd19 "is_fair_sum" = true) (k19 : PySem.W.keepIn K (.ref f_is_fair_sum) = true)
    (a20 : PySem.W.nsIn K mainGlobals "least_level" = some (some (.ref f_least_level))) (l20 : K.lookup f_least_level = some ⟨oc20, od20, .func (PySem.W.fnOf "least_level" "least_level" (defArgs s_least_level) (defBody s_least_level) (defScope s_least_level) .none kV20 dc20 pm20 an20 cd20 ct20), sl20⟩) (c20 : PySem.W.codeIn K cd20 "least_level" = true) (k20 : PySem.W.keepIn K (.ref f_least_level) = true)
    (a21 : PySem.W.nsIn K mainGlobals "middle_of" = some (some (.ref f_middle_of))) (l21 : K.lookup f_middle_of = some ⟨oc21, od21, .func (PySem.W.fnOf "middle_of" "middle_of" (defArgs s_middle_of) (defBody s_middle_of) (defScope s_middle_of) .none kV21 dc21 pm21 an21 cd21 ct21), sl21⟩) (c21 : PySem.W.codeIn K cd21 "middle_of" = true) (k21 : PySem.W.keepIn K (.ref f_middle_of) = true)
    (a22 : PySem.W.nsIn K mainGlobals "in_order" = some (some (.ref f_in_order))) (l22 : K.lookup f_in_order = some ⟨oc22, od22, .func (PySem.W.fnOf "in_order" "in_order" (defArgs s_in_order) (defBody s_in_order) (defScope s_in_order) .none kV22 dc22 pm22 an22 cd22 ct22), sl22⟩) (c22 : PySem.W.codeIn K cd22 "in_order" = true) (k22 : PySem.W.keepIn K (.ref f_in_order) = true)
    (a23 : PySem.W.nsIn K mainGlobals "level_sum" = some (some (.ref f_level_sum))) (l23 : K.lookup f_level_sum = some ⟨oc23, od23, .func (PySem.W.fnOf "level_sum" "level_sum" (defArgs s_level_sum) (defBody s_level_sum) (defScope s_level_sum) .none kV23 dc23 pm23 an23 cd23 ct23), sl23⟩) (c23 : PySem.W.codeIn K cd23 "level_sum" = true) (k23 : PySem.W.keepIn K (.ref f_level_sum) = true)
    (a24 : PySem.W.nsIn K mainGlobals "early_pulls" = some (some (.ref f_early_pulls))) (l24 : K.lookup f_early_pulls = some ⟨oc24, od24, .func (PySem.W.fnOf "early_pulls" "early_pulls" (defArgs s_early_pulls) (defBody s_early_pulls) (defScope s_early_pulls) .none kV24 dc24 pm24 an24 cd24 ct24), sl24⟩) (c24 : PySem.W.codeIn K cd24 "early_pulls" = true) (k24 : PySem.W.keepIn K (.ref f_early_pulls) = true)
    (a25 : PySem.W.nsIn K mainGlobals "rises" = some (some (.ref f_rises))) (l25 : K.lookup f_rises = some ⟨oc25, od25, .func (PySem.W.fnOf "rises" "rises" (defArgs s_rises) (defBody s_rises) (defScope s_rises) .none kV25 dc25 pm25 an25 cd25 ct25), sl25⟩) (c25 : PySem.W.codeIn K cd25 "rises" = true) (k25 : PySem.W.keepIn K (.ref f_rises) = true)
    (a26 : PySem.W.nsIn K mainGlobals "holds_up" = some (some (.ref f_holds_up))) (l26 : K.lookup f_holds_up = some ⟨oc26, od26, .func (PySem.W.fnOf "holds_up" "holds_up" (defArgs s_holds_up) (defBody s_holds_up) (defScope s_holds_up) .none kV26 dc26 pm26 an26 cd26 ct26), sl26⟩) (c26 : PySem.W.codeIn K cd26 "holds_up" = true) (k26 : PySem.W.keepIn K (.ref f_holds_up) = true)
    (a27 : PySem.W.nsIn K mainGlobals "rise_least" = some (some (.ref f_rise_least))) (l27 : K.lookup f_rise_least = some ⟨oc27, od27, .func (PySem.W.fnOf "rise_least" "rise_least" (defArgs s_rise_least) (defBody s_rise_least) (defScope s_rise_least) .none kV27 dc27 pm27 an27 cd27 ct27), sl27⟩) (c27 : PySem.W.codeIn K cd27 "rise_least" = true) (k27 : PySem.W.keepIn K (.ref f_rise_least) = true)
    (a28 : PySem.W.nsIn K mainGlobals "pooled" = some (some (.ref f_pooled))) (l28 : K.lookup f_pooled = some ⟨oc28, od28, .func (PySem.W.fnOf "pooled" "pooled" (defArgs s_pooled) (defBody s_pooled) (defScope s_pooled) .none kV28 dc28 pm28 an28 cd28 ct28), sl28⟩) (c28 : PySem.W.codeIn K cd28 "pooled" = true) (k28 : PySem.W.keepIn K (.ref f_pooled) = true)
    (a29 : PySem.W.nsIn K mainGlobals "rise_far" = some (some (.ref f_rise_far))) (l29 : K.lookup f_rise_far = some ⟨oc29, od29, .func (PySem.W.fnOf "rise_far" "rise_far" (defArgs s_rise_far) (defBody s_rise_far) (defScope s_rise_far) .none kV29 dc29 pm29 an29 cd29 ct29), sl29⟩) (c29 : PySem.W.codeIn K cd29 "rise_far" = true) (k29 : PySem.W.keepIn K (.ref f_rise_far) = true)
    (a30 : PySem.W.nsIn K mainGlobals "peaks_of" = some (some (.ref f_peaks_of))) (l30 : K.lookup f_peaks_of = some ⟨oc30, od30, .func (PySem.W.fnOf "peaks_of" "peaks_of" (defArgs s_peaks_of) (defBody s_peaks_of) (defScope s_peaks_of) .none kV30 dc30 pm30 an30 cd30 ct30), sl30⟩) (c30 : PySem.W.codeIn K cd30 "peaks_of" = true) (k30 : PySem.W.keepIn K (.ref f_peaks_of) = true)
    (a31 : PySem.W.nsIn K mainGlobals "rise_shown" = some (some (.ref f_rise_shown))) (l31 : K.lookup f_rise_shown = some ⟨oc31, od31, .func (PySem.W.fnOf "rise_shown" "rise_shown" (defArgs s_rise_shown) (defBody s_rise_shown) (defScope s_rise_shown) .none kV31 dc31 pm31 an31 cd31 ct31), sl31⟩) (c31 : PySem.W.codeIn K cd31 "rise_shown" = true) (k31 : PySem.W.keepIn K (.ref f_rise_shown) = true)
    (a32 : PySem.W.nsIn K mainGlobals "_law_cell" = some (some (.ref f_law_cell))) (l32 : K.lookup f_law_cell = some ⟨oc32, od32, .func (PySem.W.fnOf "_law_cell" "_law_cell" (defArgs s_law_cell) (defBody s_law_cell) (defScope s_law_cell) .none kV32 dc32 pm32 an32 cd32 ct32), sl32⟩) (c32 : PySem.W.codeIn K cd32 "_law_cell" = true) (k32 : PySem.W.keepIn K (.ref f_law_cell) = true)
    (a33 : PySem.W.nsIn K mainGlobals "_law_low" = some (some (.ref f_law_low))) (l33 : K.lookup f_law_low = some ⟨oc33, od33, .func (PySem.W.fnOf "_law_low" "_law_low" (defArgs s_law_low) (defBody s_law_low) (defScope s_law_low) .none kV33 dc33 pm33 an33 cd33 ct33), sl33⟩) (c33 : PySem.W.codeIn K cd33 "_law_low" = true) (k33 : PySem.W.keepIn K (.ref f_law_low) = true)
    (a34 : PySem.W.nsIn K mainGlobals "_law_sum" = some (some (.ref f_law_sum))) (l34 : K.lookup f_law_sum = some ⟨oc34, od34, .func (PySem.W.fnOf "_law_sum" "_law_sum" (defArgs s_law_sum) (defBody s_law_sum) (defScope s_law_sum) .none kV34 dc34 pm34 an34 cd34 ct34), sl34⟩) (c34 : PySem.W.codeIn K cd34 "_law_sum" = true) (k34 : PySem.W.keepIn K (.ref f_law_sum) = true)
    (a35 : PySem.W.nsIn K mainGlobals "_law_less" = some (some (.ref f_law_less))) (l35 : K.lookup f_law_less = some ⟨oc35, od35, .func (PySem.W.fnOf "_law_less" "_law_less" (defArgs s_law_less) (defBody s_law_less) (defScope s_law_less) .none kV35 dc35 pm35 an35 cd35 ct35), sl35⟩) (c35 : PySem.W.codeIn K cd35 "_law_less" = true) (k35 : PySem.W.keepIn K (.ref f_law_less) = true)
    (a36 : PySem.W.nsIn K mainGlobals "_law_marks" = some (some (.ref f_law_marks))) (l36 : K.lookup f_law_marks = some ⟨oc36, od36, .func (PySem.W.fnOf "_law_marks" "_law_marks" (defArgs s_law_marks) (defBody s_law_marks) (defScope s_law_marks) .none kV36 dc36 pm36 an36 cd36 ct36), sl36⟩) (c36 : PySem.W.codeIn K cd36 "_law_marks" = true) (k36 : PySem.W.keepIn K (.ref f_law_marks) = true)
    (a37 : PySem.W.nsIn K mainGlobals "_law_spoilt" = some (some (.ref f_law_spoilt))) (l37 : K.lookup f_law_spoilt = some ⟨oc37, od37, .func (PySem.W.fnOf "_law_spoilt" "_law_spoilt" (defArgs s_law_spoilt) (defBody s_law_spoilt) (defScope s_law_spoilt) .none kV37 dc37 pm37 an37 cd37 ct37), sl37⟩) (c37 : PySem.W.codeIn K cd37 "_law_spoilt" = true) (k37 : PySem.W.keepIn K (.ref f_law_spoilt) = true)
    (a38 : PySem.W.nsIn K mainGlobals "_law_holds" = some (some (.ref f_law_holds))) (l38 : K.lookup f_law_holds = some ⟨oc38, od38, .func (PySem.W.fnOf "_law_holds" "_law_holds" (defArgs s_law_holds) (defBody s_law_holds) (defScope s_law_holds) .none kV38 dc38 pm38 an38 cd38 ct38), sl38⟩) (c38 : PySem.W.codeIn K cd38 "_law_holds" = true) (k38 : PySem.W.keepIn K (.ref f_law_holds) = true)
    (a39 : PySem.W.nsIn K mainGlobals "_law_fair" = some (some (.ref f_law_fair))) (l39 : K.lookup f_law_fair = some ⟨oc39, od39, .func (PySem.W.fnOf "_law_fair" "_law_fair" (defArgs s_law_fair) (defBody s_law_fair) (defScope s_law_fair) .none kV39 dc39 pm39 an39 cd39 ct39), sl39⟩) (c39 : PySem.W.codeIn K cd39 "_law_fair" = true) (k39 : PySem.W.keepIn K (.ref f_law_fair) = true)
    (a40 : PySem.W.nsIn K mainGlobals "law" = some (some (.ref f_law))) (l40 : K.lookup f_law = some ⟨oc40, od40, .func (PySem.W.fnOf "law" "law" (defArgs s_law) (defBody s_law) (defScope s_law) .none kV40 dc40 pm40 an40 cd40 ct40), sl40⟩) (c40 : PySem.W.codeIn K cd40 "law" = true) (k40 : PySem.W.keepIn K (.ref f_law) = true)
    (ax_NoNumber : PySem.W.nsIn K mainGlobals "NoNumber" = some (some (.ref x_NoNumber))) (xx_NoNumber : PySem.W.excIn K x_NoNumber [.type "ValueError", .type "Exception", .type "BaseException", .type "object"] "ValueError.__new__" = true)
    (ax_NoKind : PySem.W.nsIn K mainGlobals "NoKind" = some (some (.ref x_NoKind))) (xx_NoKind : PySem.W.excIn K x_NoKind [.type "ValueError", .type "Exception", .type "BaseException", .type "object"] "ValueError.__new__" = true)
    (z_abs : PySem.W.nsIn K mainGlobals "abs" = some none)
    (z_ahead : PySem.W.nsIn K mainGlobals "ahead" = some none)
    (z_all : PySem.W.nsIn K mainGlobals "all" = some none)
    (z_any : PySem.W.nsIn K mainGlobals "any" = some none)
    (z_bool : PySem.W.nsIn K mainGlobals "bool" = some none)
    (z_enumerate : PySem.W.nsIn K mainGlobals "enumerate" = some none)
    (z_height : PySem.W.nsIn K mainGlobals "height" = some none)
    (z_isinstance : PySem.W.nsIn K mainGlobals "isinstance" = some none)
    (z_len : PySem.W.nsIn K mainGlobals "len" = some none)
    (z_list : PySem.W.nsIn K mainGlobals "list" = some none)
    (z_mark : PySem.W.nsIn K mainGlobals "mark" = some none)
    (z_min : PySem.W.nsIn K mainGlobals "min" = some none)
    (z_miss : PySem.W.nsIn K mainGlobals "miss" = some none)
    (z_one : PySem.W.nsIn K mainGlobals "one" = some none)
    (z_pair : PySem.W.nsIn K mainGlobals "pair" = some none)
    (z_peak : PySem.W.nsIn K mainGlobals "peak" = some none)
    (z_pull : PySem.W.nsIn K mainGlobals "pull" = some none)
    (z_range : PySem.W.nsIn K mainGlobals "range" = some none)
    (z_reversed : PySem.W.nsIn K mainGlobals "reversed" = some none)
    (z_str : PySem.W.nsIn K mainGlobals "str" = some none)
    (z_sum : PySem.W.nsIn K mainGlobals "sum" = some none)
    (z_weight : PySem.W.nsIn K mainGlobals "weight" = some none)
    (z_zip : PySem.W.nsIn K mainGlobals "zip" = some none)
    {tk0_KINDS tk1_KINDS tk2_KINDS : Tok} {od_KINDS : Option Addr} {n_KINDS : Nat} {sl_KINDS : Array (Option Value)} (zc_KINDS : PySem.W.nsIn K mainGlobals "KINDS" = some (some (.ref g_KINDS)))
    (lk_KINDS : K.lookup g_KINDS = some ⟨.type "tuple", od_KINDS, .seq #[(.str "far" tk0_KINDS), (.str "sum" tk1_KINDS), (.str "square" tk2_KINDS)] n_KINDS, sl_KINDS⟩)
    {tk0_NOUGHT tk1_NOUGHT : Tok} {od_NOUGHT : Option Addr} {n_NOUGHT : Nat} {sl_NOUGHT : Array (Option Value)} (zc_NOUGHT : PySem.W.nsIn K mainGlobals "NOUGHT" = some (some (.ref g_NOUGHT)))
    (lk_NOUGHT : K.lookup g_NOUGHT = some ⟨.type "tuple", od_NOUGHT, .seq #[(.int 0 tk0_NOUGHT), (.int 1 tk1_NOUGHT)] n_NOUGHT, sl_NOUGHT⟩)
    : ∃ fd : FuncData, (∀ (s : Shared) (v : Value), BindsTo s fd ⟨[v], []⟩ [("script", v)]) ∧ ∀ base : Heap, K.In base → base.Ns mainGlobals mg → FnOk l.prog w K mg base (CXE l.prog w) 8 fa fd ["script"] (spLaw K) := by
  have e := hfa.symm.trans (PySem.W.mg_of X G a40)
  cases e
  have F0 := fun_mk (st := s_common_divisor) l0 c0 k0
  have b0 := F0.binds (ps := ["one", "other"]) fun _ _ _ _ _ _ us hl => match us, hl with | [_, _], _ => rfl
  have F1 := fun_mk (st := s_fraction) l1 c1 k1
  have b1 := F1.binds (ps := ["top", "bottom"]) fun _ _ _ _ _ _ us hl => match us, hl with | [_, _], _ => rfl
  have F2 := fun_mk (st := s_plus) l2 c2 k2
  have b2 := F2.binds (ps := ["one", "other"]) fun _ _ _ _ _ _ us hl => match us, hl with | [_, _], _ => rfl
  have F3 := fun_mk (st := s_minus) l3 c3 k3
  have b3 := F3.binds (ps := ["one", "other"]) fun _ _ _ _ _ _ us hl => match us, hl with | [_, _], _ => rfl
  have F4 := fun_mk (st := s_product) l4 c4 k4
  have b4 := F4.binds (ps := ["one", "other"]) fun _ _ _ _ _ _ us hl => match us, hl with | [_, _], _ => rfl
  have F5 := fun_mk (st := s_quotient) l5 c5 k5
  have b5 := F5.binds (ps := ["one", "other"]) fun _ _ _ _ _ _ us hl => match us, hl with | [_, _], _ => rfl
  have F6 := fun_mk (st := s_is_less) l6 c6 k6
  have b6 := F6.binds (ps := ["one", "other"]) fun _ _ _ _ _ _ us hl => match us, hl with | [_, _], _ => rfl
  have F7 := fun_mk (st := s_size_of) l7 c7 k7
  have b7 := F7.binds (ps := ["one"]) fun _ _ _ _ _ _ us hl => match us, hl with | [_], _ => rfl
  have F8 := fun_mk (st := s_total_of) l8 c8 k8
  have b8 := F8.binds (ps := ["some"]) fun _ _ _ _ _ _ us hl => match us, hl with | [_], _ => rfl
  have F9 := fun_mk (st := s_greatest_of) l9 c9 k9
  have b9 := F9.binds (ps := ["some"]) fun _ _ _ _ _ _ us hl => match us, hl with | [_], _ => rfl
  have F10 := fun_mk (st := s_least_of) l10 c10 k10
  have b10 := F10.binds (ps := ["some"]) fun _ _ _ _ _ _ us hl => match us, hl with | [_], _ => rfl
  have F11 := fun_mk (st := s_height_at) l11 c11 k11
  have b11 := F11.binds (ps := ["numbers", "x"]) fun _ _ _ _ _ _ us hl => match us, hl with | [_, _], _ => rfl
  have F12 := fun_mk (st := s_row_of) l12 c12 k12
  have b12 := F12.binds (ps := ["numbers", "marks"]) fun _ _ _ _ _ _ us hl => match us, hl with | [_, _], _ => rfl
  have F13 := fun_mk (st := s_misses_of) l13 c13 k13
  have b13 := F13.binds (ps := ["marks", "row"]) fun _ _ _ _ _ _ us hl => match us, hl with | [_, _], _ => rfl
  have F14 := fun_mk (st := s_check_kind) l14 c14 k14
  have b14 := F14.binds (ps := ["kind"]) fun _ _ _ _ _ _ us hl => match us, hl with | [_], _ => rfl
  have F15 := fun_mk (st := s_weighed_misses) l15 c15 k15
  have b15 := F15.binds (ps := ["marks", "row"]) fun _ _ _ _ _ _ us hl => match us, hl with | [_, _], _ => rfl
  have F16 := fun_mk (st := s_is_fair) l16 c16 k16
  have b16 := F16.binds (ps := ["kind", "marks", "row", "pulls"]) fun _ _ _ _ _ _ us hl => match us, hl with | [_, _, _, _], _ => rfl
  have F17 := fun_mk (st := s_is_fair_far) l17 c17 k17
  have b17 := F17.binds (ps := ["misses", "pulls"]) fun _ _ _ _ _ _ us hl => match us, hl with | [_, _], _ => rfl
  have F18 := fun_mk (st := s_has_sign_of) l18 c18 k18
  have b18 := F18.binds (ps := ["miss", "pull"]) fun _ _ _ _ _ _ us hl => match us, hl with | [_, _], _ => rfl
  have F19 := fun_mk (st := s_is_fair_sum) l19 c19 k19
  have b19 := F19.binds (ps := ["marks", "misses", "pulls"]) fun _ _ _ _ _ _ us hl => match us, hl with | [_, _, _], _ => rfl
  have F20 := fun_mk (st := s_least_level) l20 c20 k20
  have b20 := F20.binds (ps := ["kind", "marks"]) fun _ _ _ _ _ _ us hl => match us, hl with | [_, _], _ => rfl
  have F21 := fun_mk (st := s_middle_of) l21 c21 k21
  have b21 := F21.binds (ps := ["some", "weights"]) fun _ _ _ _ _ _ us hl => match us, hl with | [_, _], _ => rfl
  have F22 := fun_mk (st := s_in_order) l22 c22 k22
  have b22 := F22.binds (ps := ["some", "weights"]) fun _ _ _ _ _ _ us hl => match us, hl with | [_, _], _ => rfl
  have F23 := fun_mk (st := s_level_sum) l23 c23 k23
  have b23 := F23.binds (ps := ["marks"]) fun _ _ _ _ _ _ us hl => match us, hl with | [_], _ => rfl
  have F24 := fun_mk (st := s_early_pulls) l24 c24 k24
  have b24 := F24.binds (ps := ["marks", "misses"]) fun _ _ _ _ _ _ us hl => match us, hl with | [_, _], _ => rfl
  have F25 := fun_mk (st := s_rises) l25 c25 k25
  have b25 := F25.binds (ps := ["row"]) fun _ _ _ _ _ _ us hl => match us, hl with | [_], _ => rfl
  have F26 := fun_mk (st := s_holds_up) l26 c26 k26
  have b26 := F26.binds (ps := ["row", "pulls"]) fun _ _ _ _ _ _ us hl => match us, hl with | [_, _], _ => rfl
  have F27 := fun_mk (st := s_rise_least) l27 c27 k27
  have b27 := F27.binds (ps := ["kind", "marks"]) fun _ _ _ _ _ _ us hl => match us, hl with | [_, _], _ => rfl
  have F28 := fun_mk (st := s_pooled) l28 c28 k28
  have b28 := F28.binds (ps := ["kind", "marks"]) fun _ _ _ _ _ _ us hl => match us, hl with | [_, _], _ => rfl
  have F29 := fun_mk (st := s_rise_far) l29 c29 k29
  have b29 := F29.binds (ps := ["marks"]) fun _ _ _ _ _ _ us hl => match us, hl with | [_], _ => rfl
  have F30 := fun_mk (st := s_peaks_of) l30 c30 k30
  have b30 := F30.binds (ps := ["heights"]) fun _ _ _ _ _ _ us hl => match us, hl with | [_], _ => rfl
  have F31 := fun_mk (st := s_rise_shown) l31 c31 k31
  have b31 := F31.binds (ps := ["kind", "marks", "row", "pulls"]) fun _ _ _ _ _ _ us hl => match us, hl with | [_, _, _, _], _ => rfl
  have F32 := fun_mk (st := s_law_cell) l32 c32 k32
  have b32 := F32.binds (ps := ["script", "k"]) fun _ _ _ _ _ _ us hl => match us, hl with | [_, _], _ => rfl
  have F33 := fun_mk (st := s_law_low) l33 c33 k33
  have b33 := F33.binds (ps := ["top", "bottom"]) fun _ _ _ _ _ _ us hl => match us, hl with | [_, _], _ => rfl
  have F34 := fun_mk (st := s_law_sum) l34 c34 k34
  have b34 := F34.binds (ps := ["one", "other"]) fun _ _ _ _ _ _ us hl => match us, hl with | [_, _], _ => rfl
  have F35 := fun_mk (st := s_law_less) l35 c35 k35
  have b35 := F35.binds (ps := ["one", "other"]) fun _ _ _ _ _ _ us hl => match us, hl with | [_, _], _ => rfl
  have F36 := fun_mk (st := s_law_marks) l36 c36 k36
  have b36 := F36.binds (ps := ["script"]) fun _ _ _ _ _ _ us hl => match us, hl with | [_], _ => rfl
  have F37 := fun_mk (st := s_law_spoilt) l37 c37 k37
  have b37 := F37.binds (ps := ["row", "pulls", "cell"]) fun _ _ _ _ _ _ us hl => match us, hl with | [_, _, _], _ => rfl
  have F38 := fun_mk (st := s_law_holds) l38 c38 k38
  have b38 := F38.binds (ps := ["row", "pulls"]) fun _ _ _ _ _ _ us hl => match us, hl with | [_, _], _ => rfl
  have F39 := fun_mk (st := s_law_fair) l39 c39 k39
  have b39 := F39.binds (ps := ["kind", "marks", "misses", "pulls"]) fun _ _ _ _ _ _ us hl => match us, hl with | [_, _, _, _], _ => rfl
  have F40 := fun_mk (st := s_law) l40 c40 k40
  have b40 := F40.binds (ps := ["script"]) fun _ _ _ _ _ _ us hl => match us, hl with | [_], _ => rfl
  have T : Txt K mg ⟨f_common_divisor, PySem.W.fnOf "common_divisor" "common_divisor" (defArgs s_common_divisor) (defBody s_common_divisor) (defScope s_common_divisor) .none kV0 dc0 pm0 an0 cd0 ct0, f_fraction, PySem.W.fnOf "fraction" "fraction" (defArgs s_fraction) (defBody s_fraction) (defScope s_fraction) .none kV1 dc1 pm1 an1 cd1 ct1, f_plus, PySem.W.fnOf "plus" "plus" (defArgs s_plus) (defBody s_plus) (defScope s_plus) .none kV2 dc2 pm2 an2 cd2 ct2, f_minus, PySem.W.fnOf "minus" "minus" (defArgs s_minus) (defBody s_minus) (defScope s_minus) .none kV3 dc3 pm3 an3 cd3 ct3, f_product, PySem.W.fnOf "product" "product" (defArgs s_product) (defBody s_product) (defScope s_product) .none kV4 dc4 pm4 an4 cd4 ct4, f_quotient, PySem.W.fnOf "quotient" "quotient" (defArgs s_quotient) (defBody s_quotient) (defScope s_quotient) .none kV5 dc5 pm5 an5 cd5 ct5, f_is_less, PySem.W.fnOf "is_less" "is_less" (defArgs s_is_less) (defBody s_is_less) (defScope s_is_less) .none kV6 dc6 pm6 an6 cd6 ct6, f_size_of, PySem.W.fnOf "size_of" "size_of" (defArgs s_size_of) (defBody s_size_of) (defScope s_size_of) .none kV7 dc7 pm7 an7 cd7 ct7, f_total_of, PySem.W.fnOf "total_of" "total_of" (defArgs s_total_of) (defBody s_total_of) (defScope s_total_of) .none kV8 dc8 pm8 an8 cd8 ct8, f_greatest_of, PySem.W.fnOf "greatest_of" "greatest_of" (defArgs s_greatest_of) (defBody s_greatest_of) (defScope s_greatest_of) .none kV9 dc9 pm9 an9 cd9 ct9, f_least_of, PySem.W.fnOf "least_of" "least_of" (defArgs s_least_of) (defBody s_least_of) (defScope s_least_of) .none kV10 dc10 pm10 an10 cd10 ct10, f_height_at, PySem.W.fnOf "height_at" "height_at" (defArgs s_height_at) (defBody s_height_at) (defScope s_height_at) .none kV11 dc11 pm11 an11 cd11 ct11, f_row_of, PySem.W.fnOf "row_of" "row_of" (defArgs s_row_of) (defBody s_row_of) (defScope s_row_of) .none kV12 dc12 pm12 an12 cd12 ct12, f_misses_of, PySem.W.fnOf "misses_of" "misses_of" (defArgs s_misses_of) (defBody s_misses_of) (defScope s_misses_of) .none kV13 dc13 pm13 an13 cd13 ct13, f_check_kind, PySem.W.fnOf "check_kind" "check_kind" (defArgs s_check_kind) (defBody s_check_kind) (defScope s_check_kind) .none kV14 dc14 pm14 an14 cd14 ct14, f_weighed_misses, PySem.W.fnOf "weighed_misses" "weighed_misses" (defArgs s_weighed_misses) (defBody s_weighed_misses) (defScope s_weighed_misses) .none kV15 dc15 pm15 an15 cd15 ct15, f_is_fair, PySem.W.fnOf "is_fair" "is_fair" (defArgs s_is_fair) (defBody s_is_fair) (defScope s_is_fair) .none kV16 dc16 pm16 an16 cd16 ct16, f_is_fair_far, PySem.W.fnOf "is_fair_far" "is_fair_far" (defArgs s_is_fair_far) (defBody s_is_fair_far) (defScope s_is_fair_far) .none kV17 dc17 pm17 an17 cd17 ct17, f_has_sign_of, PySem.W.fnOf "has_sign_of" "has_sign_of" (defArgs s_has_sign_of) (defBody s_has_sign_of) (defScope s_has_sign_of) .none kV18 dc18 pm18 an18 cd18 ct18, f_is_fair_sum, PySem.W.fnOf "is_fair_sum" "is_fair_sum" (defArgs s_is_fair_sum) (defBody s_is_fair_sum) (defScope s_is_fair_sum) .none kV19 dc19 pm19 an19 cd19 ct19, f_least_level, PySem.W.fnOf "least_level" "least_level" (defArgs s_least_level) (defBody s_least_level) (defScope s_least_level) .none kV20 dc20 pm20 an20 cd20 ct20, f_middle_of, PySem.W.fnOf "middle_of" "middle_of" (defArgs s_middle_of) (defBody s_middle_of) (defScope s_middle_of) .none kV21 dc21 pm21 an21 cd21 ct21, f_in_order, PySem.W.fnOf "in_order" "in_order" (defArgs s_in_order) (defBody s_in_order) (defScope s_in_order) .none kV22 dc22 pm22 an22 cd22 ct22, f_level_sum, PySem.W.fnOf "level_sum" "level_sum" (defArgs s_level_sum) (defBody s_level_sum) (defScope s_level_sum) .none kV23 dc23 pm23 an23 cd23 ct23, f_early_pulls, PySem.W.fnOf "early_pulls" "early_pulls" (defArgs s_early_pulls) (defBody s_early_pulls) (defScope s_early_pulls) .none kV24 dc24 pm24 an24 cd24 ct24, f_rises, PySem.W.fnOf "rises" "rises" (defArgs s_rises) (defBody s_rises) (defScope s_rises) .none kV25 dc25 pm25 an25 cd25 ct25, f_holds_up, PySem.W.fnOf "holds_up" "holds_up" (defArgs s_holds_up) (defBody s_holds_up) (defScope s_holds_up) .none kV26 dc26 pm26 an26 cd26 ct26, f_rise_least, PySem.W.fnOf "rise_least" "rise_least" (defArgs s_rise_least) (defBody s_rise_least) (defScope s_rise_least) .none kV27 dc27 pm27 an27 cd27 ct27, f_pooled, PySem.W.fnOf "pooled" "pooled" (defArgs s_pooled) (defBody s_pooled) (defScope s_pooled) .none kV28 dc28 pm28 an28 cd28 ct28, f_rise_far, PySem.W.fnOf "rise_far" "rise_far" (defArgs s_rise_far) (defBody s_rise_far) (defScope s_rise_far) .none kV29 dc29 pm29 an29 cd29 ct29, f_peaks_of, PySem.W.fnOf "peaks_of" "peaks_of" (defArgs s_peaks_of) (defBody s_peaks_of) (defScope s_peaks_of) .none kV30 dc30 pm30 an30 cd30 ct30, f_rise_shown, PySem.W.fnOf "rise_shown" "rise_shown" (defArgs s_rise_shown) (defBody s_rise_shown) (defScope s_rise_shown) .none kV31 dc31 pm31 an31 cd31 ct31, f_law_cell, PySem.W.fnOf "_law_cell" "_law_cell" (defArgs s_law_cell) (defBody s_law_cell) (defScope s_law_cell) .none kV32 dc32 pm32 an32 cd32 ct32, f_law_low, PySem.W.fnOf "_law_low" "_law_low" (defArgs s_law_low) (defBody s_law_low) (defScope s_law_low) .none kV33 dc33 pm33 an33 cd33 ct33, f_law_sum, PySem.W.fnOf "_law_sum" "_law_sum" (defArgs s_law_sum) (defBody s_law_sum) (defScope s_law_sum) .none kV34 dc34 pm34 an34 cd34 ct34, f_law_less, PySem.W.fnOf "_law_less" "_law_less" (defArgs s_law_less) (defBody s_law_less) (defScope s_law_less) .none kV35 dc35 pm35 an35 cd35 ct35, f_law_marks, PySem.W.fnOf "_law_marks" "_law_marks" (defArgs s_law_marks) (defBody s_law_marks) (defScope s_law_marks) .none kV36 dc36 pm36 an36 cd36 ct36, f_law_spoilt, PySem.W.fnOf "_law_spoilt" "_law_spoilt" (defArgs s_law_spoilt) (defBody s_law_spoilt) (defScope s_law_spoilt) .none kV37 dc37 pm37 an37 cd37 ct37, f_law_holds, PySem.W.fnOf "_law_holds" "_law_holds" (defArgs s_law_holds) (defBody s_law_holds) (defScope s_law_holds) .none kV38 dc38 pm38 an38 cd38 ct38, f_law_fair, PySem.W.fnOf "_law_fair" "_law_fair" (defArgs s_law_fair) (defBody s_law_fair) (defScope s_law_fair) .none kV39 dc39 pm39 an39 cd39 ct39, fa, PySem.W.fnOf "law" "law" (defArgs s_law) (defBody s_law) (defScope s_law) .none kV40 dc40 pm40 an40 cd40 ct40, x_NoNumber, x_NoKind, g_KINDS, g_NOUGHT⟩ := ⟨F0, PySem.W.mg_of X G a0, b0, F1, PySem.W.mg_of X G a1, b1, F2, PySem.W.mg_of X G a2, b2, F3, PySem.W.mg_of X G a3, b3, F4, PySem.W.mg_of X G a4, b4, F5, PySem.W.mg_of X G a5, b5, F6, PySem.W.mg_of X G a6, b6, F7, PySem.W.mg_of X G a7, b7, F8, PySem.W.mg_of X G a8, b8, F9, PySem.W.mg_of X G a9, b9, F10, PySem.W.mg_of X G a10, b10, F11, PySem.W.mg_of X G a11, b11, F12, PySem.W.mg_of X G a12, b12, F13, PySem.W.mg_of X G a13, b13, F14, PySem.W.mg_of X G a14, b14, F15, PySem.W.mg_of X G a15, b15, F16, PySem.W.mg_of X G a16, b16, F17, PySem.W.mg_of X G a17, b17, F18, PySem.W.mg_of X G a18, b18, F19, PySem.W.mg_of X G a19, b19, F20, PySem.W.mg_of X G a20, b20, F21, PySem.W.mg_of X G a21, b21, F22, PySem.W.mg_of X G a22, b22, F23, PySem.W.mg_of X G a23, b23, F24, PySem.W.mg_of X G a24, b24, F25, PySem.W.mg_of X G a25, b25, F26, PySem.W.mg_of X G a26, b26, F27, PySem.W.mg_of X G a27, b27, F28, PySem.W.mg_of X G a28, b28, F29, PySem.W.mg_of X G a29, b29, F30, PySem.W.mg_of X G a30, b30, F31, PySem.W.mg_of X G a31, b31, F32, PySem.W.mg_of X G a32, b32, F33, PySem.W.mg_of X G a33, b33, F34, PySem.W.mg_of X G a34, b34, F35, PySem.W.mg_of X G a35, b35, F36, PySem.W.mg_of X G a36, b36, F37, PySem.W.mg_of X G a37, b37, F38, PySem.W.mg_of X G a38, b38, F39, PySem.W.mg_of X G a39, b39, F40, PySem.W.mg_of X G a40, b40, ⟨xx_NoNumber, PySem.W.mg_of X G ax_NoNumber⟩, ⟨xx_NoKind, PySem.W.mg_of X G ax_NoKind⟩, PySem.W.mg_none_of X G z_abs, PySem.W.mg_none_of X G z_ahead, PySem.W.mg_none_of X G z_all, PySem.W.mg_none_of X G z_any, PySem.W.mg_none_of X G z_bool, PySem.W.mg_none_of X G z_enumerate, PySem.W.mg_none_of X G z_height, PySem.W.mg_none_of X G z_isinstance, PySem.W.mg_none_of X G z_len, PySem.W.mg_none_of X G z_list, PySem.W.mg_none_of X G z_mark, PySem.W.mg_none_of X G z_min, PySem.W.mg_none_of X G z_miss, PySem.W.mg_none_of X G z_one, PySem.W.mg_none_of X G z_pair, PySem.W.mg_none_of X G z_peak, PySem.W.mg_none_of X G z_pull, PySem.W.mg_none_of X G z_range, PySem.W.mg_none_of X G z_reversed, PySem.W.mg_none_of X G z_str, PySem.W.mg_none_of X G z_sum, PySem.W.mg_none_of X G z_weight, PySem.W.mg_none_of X G z_zip, PySem.W.mg_of X G zc_KINDS, ktup (xs := [(.str "far"), (.str "sum"), (.str "square")]) lk_KINDS (Nat.le_of_lt (small1000 (show 3 ≤ 1000 by decide))) (.cons ⟨_, rfl⟩ (.cons ⟨_, rfl⟩ (.cons ⟨_, rfl⟩ .nil))) fun _ => .cons (.str "far") (.cons (.str "sum") (.cons (.str "square") .nil)), PySem.W.mg_of X G zc_NOUGHT, ktup (xs := [(.int 0), (.int 1)]) lk_NOUGHT (Nat.le_of_lt (small1000 (show 2 ≤ 1000 by decide))) (.cons ⟨_, rfl⟩ (.cons ⟨_, rfl⟩ .nil)) fun _ => .cons (.int 0) (.cons (.int 1) .nil)⟩
  exact ⟨PySem.W.fnOf "law" "law" (defArgs s_law) (defBody s_law) (defScope s_law) .none kV40 dc40 pm40 an40 cd40 ct40, fun s v => .of_eq rfl, fun base _ _ => ok_law T⟩
end My
def PySem.W.Fast.tw803418320172372937 : Unit := ()
def PySem.W.Fast.tw15132700290052305088 : Unit := ()
def PySem.W.Fast.tw16152921598995602404 : Unit := ()
def PySem.W.Fast.tw9754010762392385036 : Unit := ()
def PySem.W.Fast.tw7499382245730976364 : Unit := ()
def PySem.W.Fast.tw14337192883524122491 : Unit := ()
def PySem.W.Fast.tw9104196549526797896 : Unit := ()
def PySem.W.Fast.tw1504800544110934900 : Unit := ()
def PySem.W.Fast.tw558819341007470131 : Unit := ()
def PySem.W.Fast.tw6362546211343373705 : Unit := ()
def PySem.W.Fast.tw17307723684714574458 : Unit := ()
def PySem.W.Fast.tw4588009277834411970 : Unit := ()
def PySem.W.Fast.tw13063139729611497925 : Unit := ()
def PySem.W.Fast.tw18333789088754318378 : Unit := ()
def PySem.W.Fast.tw84737819060136773 : Unit := ()
def PySem.W.Fast.tw7995205350427573725 : Unit := ()
def PySem.W.Fast.tw10979900004382524380 : Unit := ()
def PySem.W.Fast.tw17690474376610532271 : Unit := ()
def PySem.W.Fast.tw9401284940920359885 : Unit := ()
def PySem.W.Fast.tw14431408933866895602 : Unit := ()
def PySem.W.Fast.tw12949376057816935192 : Unit := ()
def PySem.W.Fast.tw6489085811333642857 : Unit := ()
def PySem.W.Fast.tw7539754195417317588 : Unit := ()
def PySem.W.Fast.tw10911039697090904167 : Unit := ()
def PySem.W.Fast.tw7459810223630059589 : Unit := ()
def PySem.W.Fast.tw15715470417466699371 : Unit := ()
def PySem.W.Fast.tw2183797955781667892 : Unit := ()
def PySem.W.Fast.tw5498343447065576841 : Unit := ()
def PySem.W.Fast.tw602487935127688530 : Unit := ()
def PySem.W.Fast.tw1044374377664334438 : Unit := ()
def PySem.W.Fast.tw12902356597898333844 : Unit := ()
def PySem.W.Fast.tw7504641937898115322 : Unit := ()
def PySem.W.Fast.tw1026825376089755302 : Unit := ()
def PySem.W.Fast.tw1679962969431670151 : Unit := ()
def PySem.W.Fast.tw920103838055166717 : Unit := ()
def PySem.W.Fast.tw5204564904046425533 : Unit := ()
def PySem.W.Fast.tw2703407038112922965 : Unit := ()
def PySem.W.Fast.tw4402526031126603605 : Unit := ()
def PySem.W.Fast.tw9716075209200170821 : Unit := ()
def PySem.W.Fast.tw3517218852316179077 : Unit := ()
def PySem.W.Fast.tw17820142578981295577 : Unit := ()
def PySem.W.Fast.tw6879386544480609101 : Unit := ()
def PySem.W.Fast.tw1146817974426449091 : Unit := ()
def PySem.W.Fast.tw16726651650124516634 : Unit := ()
open PySem PySem.W PyProof.Rows
set_option maxRecDepth 100000 in
set_option maxHeartbeats 0 in
theorem PySem.Challenge.cw_leastmiss_k57_rise_shown_holds : PySem.Challenge.rw_leastmiss_k57_rise_shown.Holds := by
  w_on; o_law; k_head; (case hw => w_witness2)
  k_fill
  refine Lx.walkB (l := PySem.Challenge.rw_leastmiss_k57_rise_shown) (k := 8) rfl rfl ⟨rfl, by decide, by decide⟩ (fun w h Y => PySem.W.kIn_of Y) ?F
  case F =>
    intro w mg fa h KX G hmg
    refine' My.all_mk KX G hmg ?a0 ?l0 ?c0 ?k0 ?a1 ?l1 ?c1 ?k1 ?a2 ?l2 ?c2 ?k2 ?a3 ?l3 ?c3 ?k3 ?a4 ?l4 ?c4 ?k4 ?a5 ?l5 ?c5 ?k5 ?a6 ?l6 ?c6 ?k6 ?a7 ?l7 ?c7 ?k7 ?a8 ?l8 ?c8 ?k8 ?a9 ?l9 ?c9 ?k9 ?a10 ?l10 ?c10 ?k10 ?a11 ?l11 ?c11 ?k11 ?a12 ?l12 ?c12 ?k12 ?a13 ?l13 ?c13 ?k13 ?a14 ?l14 ?c14 ?k14 ?a15 ?l15 ?c15 ?k15 ?a16 ?l16 ?c16 ?k16 ?a17 ?l17 ?c17 ?k17 ?a18 ?l18 ?c18 ?k18 ?a19 ?l19 ?c19 ?k19 ?a20 ?l20 ?c20 ?k20 ?a21 ?l21 ?c21 ?k21 ?a22 ?l22 ?c22 ?k22 ?a23 ?l23 ?c23 ?k23 ?a24 ?l24 ?c24 ?k24 ?a25 ?l25 ?c25 ?k25 ?a26 ?l26 ?c26 ?k26 ?a27 ?l27 ?c27 ?k27 ?a28 ?l28 ?c28 ?k28 ?a29 ?l29 ?c29 ?k29 ?a30 ?l30 ?c30 ?k30 ?a31 ?l31 ?c31 ?k31 ?a32 ?l32 ?c32 ?k32 ?a33 ?l33 ?c33 ?k33 ?a34 ?l34 ?c34 ?k34 ?a35 ?l35 ?c35 ?k35 ?a36 ?l36 ?c36 ?k36 ?a37 ?l37 ?c37 ?k37 ?a38 ?l38 ?c38 ?k38 ?a39 ?l39 ?c39 ?k39 ?a40 ?l40 ?c40 ?k40 ?ax_NoNumber ?xx_NoNumber ?ax_NoKind ?xx_NoKind ?z_abs ?z_ahead ?z_all ?z_any ?z_bool ?z_enumerate ?z_height ?z_isinstance ?z_len ?z_list ?z_mark ?z_min ?z_miss ?z_one ?z_pair ?z_peak ?z_pull ?z_range ?z_reversed ?z_str ?z_sum ?z_weight ?z_zip ?zc_KINDS ?lk_KINDS ?zc_NOUGHT ?lk_NOUGHT
    (case a0 => k_is)
    (case l0 => k_is)
    (case c0 => k_is)
    (case k0 => k_is)
    (case a1 => k_is)
    (case l1 => k_is)
    (case c1 => k_is)
    (case k1 => k_is)
    (case a2 => k_is)
    (case l2 => k_is)
    (case c2 => k_is)
    (case k2 => k_is)
    (case a3 => k_is)
    (case l3 => k_is)
    (case c3 => k_is)
    (case k3 => k_is)
    (case a4 => k_is)
    (case l4 => k_is)
    (case c4 => k_is)
    (case k4 => k_is)
    (case a5 => k_is)
    (case l5 => k_is)
    (case c5 => k_is)
    (case k5 => k_is)
    (case a6 => k_is)
    (case l6 => k_is)
    (case c6 => k_is)
    (case k6 => k_is)
    (case a7 => k_is)
    (case l7 => k_is)
    (case c7 => k_is)
    (case k7 => k_is)
    (case a8 => k_is)
    (case l8 => k_is)
    (case c8 => k_is)
    (case k8 => k_is)
    (case a9 => k_is)
    (case l9 => k_is)
    (case c9 => k_is)
    (case k9 => k_is)
    (case a10 => k_is)
    (case l10 => k_is)
    (case c10 => k_is)
    (case k10 => k_is)
    (case a11 => k_is)
    (case l11 => k_is)
    (case c11 => k_is)
    (case k11 => k_is)
    (case a12 => k_is)
    (case l12 => k_is)
    (case c12 => k_is)
    (case k12 => k_is)
    (case a13 => k_is)
    (case l13 => k_is)
    (case c13 => k_is)
    (case k13 => k_is)
    (case a14 => k_is)
    (case l14 => k_is)
    (case c14 => k_is)
    (case k14 => k_is)
    (case a15 => k_is)
    (case l15 => k_is)
    (case c15 => k_is)
    (case k15 => k_is)
    (case a16 => k_is)
    (case l16 => k_is)
    (case c16 => k_is)
    (case k16 => k_is)
    (case a17 => k_is)
    (case l17 => k_is)
    (case c17 => k_is)
    (case k17 => k_is)
    (case a18 => k_is)
    (case l18 => k_is)
    (case c18 => k_is)
    (case k18 => k_is)
    (case a19 => k_is)
    (case l19 => k_is)
    (case c19 => k_is)
    (case k19 => k_is)
    (case a20 => k_is)
    (case l20 => k_is)
    (case c20 => k_is)
    (case k20 => k_is)
    (case a21 => k_is)
    (case l21 => k_is)
    (case c21 => k_is)
    (case k21 => k_is)
    (case a22 => k_is)
    (case l22 => k_is)
    (case c22 => k_is)
    (case k22 => k_is)
    (case a23 => k_is)
    (case l23 => k_is)
    (case c23 => k_is)
    (case k23 => k_is)
    (case a24 => k_is)
    (case l24 => k_is)
    (case c24 => k_is)
    (case k24 => k_is)
    (case a25 => k_is)
    (case l25 => k_is)
    (case c25 => k_is)
    (case k25 => k_is)
    (case a26 => k_is)
    (case l26 => k_is)
    (case c26 => k_is)
    (case k26 => k_is)
    (case a27 => k_is)
    (case l27 => k_is)
    (case c27 => k_is)
    (case k27 => k_is)
    (case a28 => k_is)
    (case l28 => k_is)
    (case c28 => k_is)
    (case k28 => k_is)
    (case a29 => k_is)
    (case l29 => k_is)
    (case c29 => k_is)
    (case k29 => k_is)
    (case a30 => k_is)
    (case l30 => k_is)
    (case c30 => k_is)
    (case k30 => k_is)
    (case a31 => k_is)
    (case l31 => k_is)
    (case c31 => k_is)
    (case k31 => k_is)
    (case a32 => k_is)
    (case l32 => k_is)
    (case c32 => k_is)
    (case k32 => k_is)
    (case a33 => k_is)
    (case l33 => k_is)
    (case c33 => k_is)
    (case k33 => k_is)
    (case a34 => k_is)
    (case l34 => k_is)
    (case c34 => k_is)
    (case k34 => k_is)
    (case a35 => k_is)
    (case l35 => k_is)
    (case c35 => k_is)
    (case k35 => k_is)
    (case a36 => k_is)
    (case l36 => k_is)
    (case c36 => k_is)
    (case k36 => k_is)
    (case a37 => k_is)
    (case l37 => k_is)
    (case c37 => k_is)
    (case k37 => k_is)
    (case a38 => k_is)
    (case l38 => k_is)
    (case c38 => k_is)
    (case k38 => k_is)
    (case a39 => k_is)
    (case l39 => k_is)
    (case c39 => k_is)
    (case k39 => k_is)
    (case a40 => k_is)
    (case l40 => k_is)
    (case c40 => k_is)
    (case k40 => k_is)
    (case ax_NoNumber => k_is)
    (case xx_NoNumber => k_exc)
    (case ax_NoKind => k_is)
    (case xx_NoKind => k_exc)
    (case z_abs => k_is)
    (case z_ahead => k_is)
    (case z_all => k_is)
    (case z_any => k_is)
    (case z_bool => k_is)
    (case z_enumerate => k_is)
    (case z_height => k_is)
    (case z_isinstance => k_is)
    (case z_len => k_is)
    (case z_list => k_is)
    (case z_mark => k_is)
    (case z_min => k_is)
    (case z_miss => k_is)
    (case z_one => k_is)
    (case z_pair => k_is)
    (case z_peak => k_is)
    (case z_pull => k_is)
    (case z_range => k_is)
    (case z_reversed => k_is)
    (case z_str => k_is)
    (case z_sum => k_is)
    (case z_weight => k_is)
    (case z_zip => k_is)
    (case zc_KINDS => k_is)
    (case lk_KINDS => k_is)
    (case zc_NOUGHT => k_is)
    (case lk_NOUGHT => k_is)
